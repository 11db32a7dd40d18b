
/-
  The law AnswerExcept, walked: it answers true, and nothing that was there is touched.
-/
import Derived.Test.YtcbkbdoaaaofjaaGreatAwake7
import Derived.Test.YtcbkbdoaaaofjaaGreatGuess
namespace Go.Proofs.YtcbkbdoaaaofjaaGreat
open Go.RowKit

set_option maxRecDepth 100000 in
set_option maxHeartbeats 2000000 in
theorem except_law_any (a : Ask) (h k : Hd) (n : Int) (w : World) (ha : AskIn w a h k) :
    Calls Tryz.prog 5 #[askV a h k, .int .i64 n] w fun e w' => e = .returned (.bool true) ∧ Below w.heap.size w w' := by
  rw [(show askV a h k = Value.agg #[.int .i64 a.code, .int .i64 a.addr, .int .i64 a.count, .int .i64 a.to, .slice h.1 h.2.1 h.2.2, .slice k.1 k.2.1 k.2.2, u16v a.and_, u16v a.or_] from rfl)]
  go_enter Tryz.func5, Tryz.ntmps5
  go_wp2_with fail
  have hbe_ : Below w.heap.size w w := Below.refl _ _
  have hx_ := row_at w #[.int .i64 a.code, .int .i64 a.addr, .int .i64 a.count, .int .i64 a.to, .slice h.1 h.2.1 h.2.2, .slice k.1 k.2.1 k.2.2, u16v a.and_, u16v a.or_] 26 (w.heap.size) rfl
  have hsz0 : (w.alloc (.cells #[.int .i64 a.code, .int .i64 a.addr, .int .i64 a.count, .int .i64 a.to, .slice h.1 h.2.1 h.2.2, .slice k.1 k.2.1 k.2.2, u16v a.and_, u16v a.or_] 26)).heap.size = w.heap.size + 1 := by simp
  have hsb : Below w.heap.size w (w.alloc (.cells #[.int .i64 a.code, .int .i64 a.addr, .int .i64 a.count, .int .i64 a.to, .slice h.1 h.2.1 h.2.2, .slice k.1 k.2.1 k.2.2, u16v a.and_, u16v a.or_] 26)) := (Below.refl _ _).alloc (Nat.le_refl _) _
  have hbe_ := hbe_.trans (hsb.mono (by omega))
  generalize w.alloc (.cells #[.int .i64 a.code, .int .i64 a.addr, .int .i64 a.count, .int .i64 a.to, .slice h.1 h.2.1 h.2.2, .slice k.1 k.2.1 k.2.2, u16v a.and_, u16v a.or_] 26) = w0 at *
  clear hsb
  have hx0 := hx_
  have hbe0 := hbe_
  have hz0 := hbe0.size
  have ha0 := ha.below hbe0
  clear hbe_ hx_ hsz0  ha
  refine (awake7_any _).mono ?_
  rintro e w1 ⟨rfl, hs1⟩
  have hbe1 := hbe0.trans (hs1.mono hz0)
  have ha1 := ha0.below hs1
  have hx1 := row_later hx0 hs1
  have hz1 := hbe1.size
  clear hbe0 hs1 hz0 hx0 ha0
  obtain ⟨hqx0, hqx1, hqx2, hqx3, hqx4, hqx5, hqx6, hqx7⟩ := row_eight hx1
  have hltx := row_lt hx1
  go_wp2_with fail
  refine (rlarge_any a h k _ ha1).mono ?_
  rintro e w2 ⟨rfl, hs2⟩
  have hbe2 := hbe1.trans (hs2.mono hz1)
  have ha2 := ha1.below hs2
  have hx2 := row_later hx1 hs2
  have hz2 := hbe2.size
  clear hbe1 hs2 hz1 hx1 ha1 hqx0 hqx1 hqx2 hqx3 hqx4 hqx5 hqx6 hqx7 hltx
  obtain ⟨L1, hL1⟩ : ∃ L, (decide (300 < a.words.length) || decide (3000 < a.bits.length)) = L := ⟨_, rfl⟩
  rw [hL1]
  clear hL1
  cases L1 with
  | true =>
    obtain ⟨hqx0, hqx1, hqx2, hqx3, hqx4, hqx5, hqx6, hqx7⟩ := row_eight hx2
    have hltx := row_lt hx2
    go_wp2_with fail
    go_ret
    exact ⟨rfl, hbe2⟩
  | false =>
    obtain ⟨hqx0, hqx1, hqx2, hqx3, hqx4, hqx5, hqx6, hqx7⟩ := row_eight hx2
    have hltx := row_lt hx2
    go_wp2_with fail
    refine (right6_any a h k _ ha2).mono ?_
    rintro e w3 ⟨rfl, hs3⟩
    have hbe3 := hbe2.trans (hs3.mono hz2)
    have ha3 := ha2.below hs3
    have hx3 := row_later hx2 hs3
    have hz3 := hbe3.size
    clear hbe2 hs3 hz2 hx2 ha2 hqx0 hqx1 hqx2 hqx3 hqx4 hqx5 hqx6 hqx7 hltx
    cases hr : Ak.right a with
    | false =>
      obtain ⟨hqx0, hqx1, hqx2, hqx3, hqx4, hqx5, hqx6, hqx7⟩ := row_eight hx3
      have hltx := row_lt hx3
      go_wp2_with fail
      go_ret
      exact ⟨rfl, hbe3⟩
    | true =>
      have HCD := Lib.hid (An.code_lt (An.ak_right hr).1)
      have HK := Lib.hid hr
      clear hr
      obtain ⟨hqx0, hqx1, hqx2, hqx3, hqx4, hqx5, hqx6, hqx7⟩ := row_eight hx3
      have hltx := row_lt hx3
      go_wp2_with fail
      have hq4 := row_at w3 #[.int .i64 n, .slice none 0 0, .slice none 0 0, .slice none 0 0] 29 _ rfl
      have hs4 : Below w3.heap.size w3 (w3.alloc (.cells #[.int .i64 n, .slice none 0 0, .slice none 0 0, .slice none 0 0] 29)) := (Below.refl _ _).alloc (Nat.le_refl _) _
      obtain ⟨gq, hgq⟩ : ∃ g, w3.heap.size = g := ⟨_, rfl⟩
      have hszq : (w3.alloc (.cells #[.int .i64 n, .slice none 0 0, .slice none 0 0, .slice none 0 0] 29)).heap.size = gq + 1 := by simp [hgq]
      generalize w3.alloc (.cells #[.int .i64 n, .slice none 0 0, .slice none 0 0, .slice none 0 0] 29) = w4 at *
      have hbe4 := hbe3.trans (hs4.mono hz3)
      have ha4 := ha3.below hs4
      have hx4 := row_later hx3 hs4
      have hz4 := hbe4.size
      clear hbe3 hs4 hz3 hx3 ha3 hqx0 hqx1 hqx2 hqx3 hqx4 hqx5 hqx6 hqx7 hltx
      rw [hgq] at *
      clear hgq
      refine (bytes7_any a ⟨n, [], [], []⟩ h k (none, 0, 0) (none, 0, 0) (none, 0, 0) _ ha4 (AnsIn.exc _ n) (by simp)).mono ?_
      rintro e w5 hp5
      obtain ⟨A5, n5, c5, rfl, hn5, hnc5, hcm5, hp5, hs5⟩ := hp5
      have HN5 := Lib.hid hn5
      clear hn5
      have hbe5 := hbe4.trans (hs5.mono hz4)
      have ha5 := ha4.below hs5
      have hx5 := row_later hx4 hs5
      have hq5 := row_later hq4 hs5
      have hz5 := hbe5.size
      clear hbe4 hs5 hz4 hx4 hq4 ha4
      by_cases h0 : n < 0
      · have hce : An.codeA a ⟨n, [], [], []⟩ = 2 := by
          have hnr : An.right a ⟨n, [], [], []⟩ = false := by
            unfold An.right
            rw [HK.out, decide_eq_false (show ¬ (0 ≤ n) by omega)]
            rfl
          unfold An.codeA; rw [HK.out, hnr]; rfl
        rw [hce]
        go_wp2_with fail
        go_ret
        exact ⟨by simp, hbe5⟩
      · by_cases h255 : n > 255
        · have hce : An.codeA a ⟨n, [], [], []⟩ = 2 := by
            have hnr : An.right a ⟨n, [], [], []⟩ = false := by
              unfold An.right
              rw [HK.out, decide_eq_true (show 0 ≤ n by omega), decide_eq_false (show ¬ (n ≤ 255) by omega)]
              rfl
            unfold An.codeA; rw [HK.out, hnr]; rfl
          rw [hce]
          go_wp2_with fail
          go_ret
          exact ⟨by simp, hbe5⟩
        · by_cases hz : n = 0
          · have hz' : (n == 0) = true := by rw [beq_iff_eq]; exact hz
            clear hz
            go_wp2_with fail
            go_ret
            exact ⟨by simp, hbe5⟩
          · have hz' : (n == 0) = false := by rw [beq_eq_false_iff_ne]; exact hz
            have hri : An.right a ⟨n, [], [], []⟩ = true := An.right_exc HK.out n (by omega) (by omega)
            have hce : An.codeA a ⟨n, [], [], []⟩ = 0 := by unfold An.codeA; rw [HK.out, hri]; rfl
            have hbt : An.bytes a ⟨n, [], [], []⟩ = [An.b1 (128 + a.code.toNat), An.b1 n.toNat] := by unfold An.bytes; rw [hri]; unfold An.text; rw [if_pos (show (0 : Int) < n by omega)]; rfl
            have hrt := An.read_text hri
            rw [(show An.text a ⟨n, [], [], []⟩ = [An.b1 (128 + a.code.toNat), An.b1 n.toNat] by unfold An.text; rw [if_pos (show (0 : Int) < n by omega)])] at hrt
            have HRT := Lib.hid hrt
            rw [hce]
            rw [hbt] at hp5 HN5
            obtain rfl : n5 = 2 := HN5.out.symm
            clear hce hbt hrt hri hz
            obtain ⟨c1, hc1⟩ : ∃ c1, An.b1 (128 + a.code.toNat) = c1 := ⟨_, rfl⟩
            have hc128 : (128 : Int) ≤ (c1.toNat : Int) := by rw [← hc1, An.b1_toNat _ (by have := HCD.out; omega)]; omega
            rw [hc1] at HRT hp5
            clear hc1
            obtain ⟨hqx0, hqx1, hqx2, hqx3, hqx4, hqx5, hqx6, hqx7⟩ := row_eight hx5
            have hltx := row_lt hx5
            go_wp2_with fail
            refine (read7_any a h k A5 2 c5 _ rfl hnc5 hcm5 _ ha5 hp5).mono ?_
            rintro e w6 hq6
            rw [HRT.out] at hq6
            obtain ⟨h6, k6, t6, rfl, hx6, hs6⟩ := hq6
            clear hx6
            rw [(show ansV ((⟨n, [], [], []⟩, 0) : Ans × Nat).1 h6 k6 t6 = Value.agg #[.int .i64 n, .slice h6.1 h6.2.1 h6.2.2, .slice k6.1 k6.2.1 k6.2.2, .slice t6.1 t6.2.1 t6.2.2] from rfl)]
            have hbe6 := hbe5.trans (hs6.mono hz5)
            have hp6 := hp5.below hs6 (Nat.le_refl _)
            have ha6 := ha5.below hs6
            have hx6 := row_later hx5 hs6
            have hq6 := row_later hq5 hs6
            have hz6 := hbe6.size
            clear hbe5 hs6 hz5 hx5 hq5 hp5 ha5 hqx0 hqx1 hqx2 hqx3 hqx4 hqx5 hqx6 hqx7 hltx
            obtain ⟨b9, o9, rfl, hlt9, hc9⟩ := hp6.at_ (by simp)
            have hv9 : w6.cell? ⟨b9, o9 + 0, none⟩ = some (.int .u8 (c1.toNat : Int)) := hc9 0 (by simp)
            rw [Nat.add_zero] at hv9
            clear hc9 hp6
            have hne9 : (n == n) = true := by simp
            generalize (c1.toNat : Int) = cv at *
            go_wp2_with fail
            go_ret
            exact ⟨by simp, hbe6.alloc hz6 _⟩
#print axioms except_law_any
end Go.Proofs.YtcbkbdoaaaofjaaGreat
