/-
  The document's Bits.
-/
import Derived.Test.YtglejgfmdgjijaaRpack
import Derived.Test.YtglejgfmdgjijaaSame
namespace Go.Proofs.Ytglejgfmdgjijaa
open Go.RowKit

namespace Word
theorem isBits_no (b : List UInt8) (n : Nat) (h : 8 * b.length < n) : isBits b n = false := by
  cases hy : isBits b n with
  | false => rfl
  | true => have := isBits_length hy; omega
end Word
theorem half_pow (x k : Nat) : x / 2 ^ (k + 1) = x / 2 ^ k / 2 := by rw [Nat.pow_succ, Nat.div_div_eq_div_mul]
theorem half_beq (x : Nat) : ((x : Int) % 2 == 1) = decide (x % 2 = 1) := by
  rcases Nat.mod_two_eq_zero_or_one x with h | h
  · rw [h, beq_eq_false_iff_ne.2 (by omega)]; rfl
  · rw [h, beq_iff_eq.2 (by omega)]; rfl

set_option maxRecDepth 100000 in
set_option maxHeartbeats 1000000 in
theorem rbits_in (A : Option Addr) (m c : Nat) (b : List UInt8) (n : Nat) (hm : b.length = m) (hmc : m ≤ 20000) (hn : n ≤ 8 * m) (w : World) (hb : Lies u8v w A b) :
    Calls Try.prog 11 #[.slice A m c, .int .i64 (n : Int)] w (BitsPost w b n) := by
  subst hm
  have hnn : ¬ (8 * (b.length : Int) < (n : Int)) := by omega
  have HPB := Lib.hid (Word.pack_bitsOf b n)
  have HII : Hid (Word.isBitsI b n = Word.isBits b n) := Lib.hid (by unfold Word.isBitsI; simp)
  go_enter Try.func11, Try.ntmps11
  go_wp2
  go_loopw [6, 7] (fun out i wr => ∃ (j : Nat) (A : Option Addr) (c : Nat), j ≤ n ∧ i = .int .i64 j ∧ out = .slice A j c ∧ wr.ownsRow w.heap.size 4 1 (.slice A j c) j ((Word.bitsOf b j).map bitv) ∧ Below w.heap.size w wr) (fun _ i _ => n - (intOf i).toNat)
  case atStart => exact ⟨0, none, 0, Nat.zero_le _, rfl, rfl, World.ownsRow_nil _ _ _ _, Below.refl _ _⟩
  case round =>
    obtain ⟨j, A', c', hj, rfl, rfl, hown, hB⟩ := hrel
    have hz := hB.size
    by_cases hlt : j < n
    · have hq : j / 8 < b.length := by omega
      obtain ⟨b1, o1, rfl, hc1⟩ := (hb.below hB (Nat.le_refl _)) (j / 8) hq
      have HV : Hid (Word.bitAt b j = decide ((b[j / 8]).toNat / 2 ^ (j % 8) % 2 = 1)) := Lib.hid (by unfold Word.bitAt; rw [List.getD_eq_getElem?_getD, List.getElem?_eq_getElem hq, Option.getD_some])
      have hx := (b[j / 8]).toNat_lt
      have HS := Lib.hid (Word.bitsOf_succ b j)
      unfold u8v at hc1
      generalize (b[j / 8]).toNat = x at hc1 HV hx
      have hr8 : j % 8 < 8 := by omega
      have hj16 : j ≤ 160000 := by omega
      go_wp2
      go_loop [8, 9] (fun cv kv => ∃ k : Nat, k ≤ j % 8 ∧ kv = .int .i64 k ∧ cv = .int .i64 ((x / 2 ^ k : Nat) : Int)) (fun _ kv => 8 - (intOf kv).toNat)
      case atStart => exact ⟨0, by omega, rfl, by rw [Nat.pow_zero, Nat.div_one]⟩
      case round =>
        obtain ⟨k, hk, rfl, rfl⟩ := hrel
        have HH := Lib.hid (half_pow x k)
        have hyx : x / 2 ^ k ≤ x := Nat.div_le_self _ _
        by_cases hlt2 : k < j % 8
        · have hlk : (k : Int) < (j : Int) % 8 := by omega
          generalize x / 2 ^ k = y at *
          go_wp2
          go_round
          case rel => exact ⟨k + 1, by omega, by simp, by rw [HH.out]; simp⟩
          case measure => simp [intOf]; omega
        · have hlk : ¬ ((k : Int) < (j : Int) % 8) := by omega
          obtain rfl : k = j % 8 := by omega
          have HN : Hid ([Value.bool (((x / 2 ^ (j % 8) : Nat) : Int) % 2 == 1)] = [Word.bitAt b j].map bitv) := Lib.hid (by rw [half_beq, ← HV.out]; rfl)
          clear HV HH
          generalize x / 2 ^ (j % 8) = y at *
          go_wp2_with (at_builtin; go_must (refine wpList_append_lies kitb oneb _ rfl (.tmp 40) (.tmp 44) rfl w.heap.size _ j (Word.bitsOf b j) rfl (hown.alloc _) (some ⟨wr.heap.size, 0, none⟩) 1 1 [Word.bitAt b j] rfl rfl (lies_new (f := bitv) wr #[.bool ((y : Int) % 2 == 1)] 4 [Word.bitAt b j] HN.out) (by omega) (by unfold maxLen; omega) (by simp; omega) ?_; intro A2 c2 w2 hown2 hg2 hb2))
          go_roundw
          case rel => exact ⟨j + 1, A2, c2, by omega, by simp, rfl, by rw [HS.out]; exact hown2, (hB.alloc hz (.cells #[.bool ((y : Int) % 2 == 1)] 4)).trans hb2⟩
          case measure => simp [intOf]; omega
    · obtain rfl : j = n := by omega
      obtain ⟨hjc, hcm, hbl, hL⟩ := own_at hown
      go_wp2_with fail
      refine (rpack_any A' j c' (Word.bitsOf b j) hbl (by omega) wr hL).mono ?_
      rintro e w2 ⟨A2, c2, rfl, hk1, hk2, hy2, hbe2'⟩
      have hbe2 := hB.trans (hbe2'.mono hz)
      have hb2 := hb.below hbe2 (Nat.le_refl _)
      have hL2 := hL.below hbe2' (Nat.le_refl _)
      have hpl : (Word.pack (Word.bitsOf b j)).length = (j + 7) / 8 := by rw [Word.pack_length, Word.bitsOf_length]
      generalize Word.pack (Word.bitsOf b j) = l at *
      clear hB hz hown hbe2' hL hb hk1 hk2
      obtain ⟨K, hK⟩ : ∃ K, (j + 7) / 8 = K := ⟨_, rfl⟩
      rw [hK] at hpl ⊢
      have hKm : K ≤ 20001 := by omega
      by_cases hlen : K = b.length
      · have he : ((K : Int) != (b.length : Int)) = false := by rw [hlen]; simp
        have HLEN := Lib.hid (hpl.trans hlen)
        have HPL := Lib.hid hpl
        clear hpl hK
        have hle : K ≤ b.length := by omega
        clear hlen
        go_wp2
        go_loopw [11] (fun i wr => ∃ t : Nat, t ≤ K ∧ i = .int .i64 t ∧ Hid (l.take t = b.take t) ∧ ∃ q, wr = w2.drewN q) (fun i _ => K - (intOf i).toNat)
        case atStart => exact ⟨0, Nat.zero_le _, rfl, Lib.hid rfl, 0, rfl⟩
        case round =>
          obtain ⟨t, ht, rfl, HT, q, rfl⟩ := hrel
          by_cases hlt3 : t < K
          · have ht1 : t < l.length := by have := HPL.out; omega
            obtain ⟨b1, o1, rfl, hc1⟩ := hy2 t ht1
            have ht2 : t < b.length := by omega
            obtain ⟨b2, o2, rfl, hc2⟩ := hb2 t ht2
            unfold u8v at hc1 hc2
            by_cases hx : l[t] = b[t]
            · have HS := Lib.hid (take_step l b t ht1 ht2 HT.out hx)
              rw [← hx] at hc2
              clear hx
              generalize l[t] = x at hc1 hc2
              go_wp2
              go_quiet (fail)
              go_wp2
              go_roundw
              case rel => exact ⟨t + 1, by omega, by simp, HS, _, rfl⟩
              case measure => simp [intOf]; omega
            · have HS := Lib.hid (same_no l b t ht1 ht2 hx)
              have hne : (((l[t]).toNat : Int) != ((b[t]).toNat : Int)) = true := by
                rw [bne_iff_ne]
                intro e
                exact hx (UInt8.toNat_inj.1 (by exact_mod_cast e))
              clear hx
              generalize l[t] = x at hc1 hne
              generalize b[t] = y at hc2 hne
              go_wp2
              go_quiet (fail)
              go_wp2
              go_ret2
              exact BitsPost.none _ _ _ _ (by rw [HII.out, ← HPB.out]; exact HS.out) (drewN_below (drewN_below hbe2 _) _)
          · obtain rfl : t = K := by omega
            have HS := Lib.hid (same_yes l b HLEN.out (by have := HT.out; rw [HPL.out]; exact this))
            go_wp2
            go_ret2
            exact BitsPost.some _ _ _ _ _ _ (by rw [HII.out, ← HPB.out]; exact HS.out) hjc hcm (hL2.drewN _) (drewN_below hbe2 _)
      · have he : ((K : Int) != (b.length : Int)) = true := by rw [bne_iff_ne]; omega
        have HS := Lib.hid (same_len l b (by rw [hpl]; exact hlen))
        clear hlen hpl hK
        go_wp2
        go_ret2
        exact BitsPost.none _ _ _ _ (by rw [HII.out, ← HPB.out]; exact HS.out) hbe2

set_option maxRecDepth 100000 in
set_option maxHeartbeats 400000 in
theorem rbits_any (A : Option Addr) (m c : Nat) (b : List UInt8) (N : Int) (hN : N ≤ 9223372036854775807) (hm : b.length = m) (hmc : m ≤ 20000) (w : World) (hb : Lies u8v w A b) :
    Calls Try.prog 11 #[.slice A m c, .int .i64 N] w (BitsPost w b N) := by
  by_cases h0 : N < 0
  · have HI : Hid (Word.isBitsI b N = false) := Lib.hid (by unfold Word.isBitsI; rw [decide_eq_false (by omega), Bool.false_and])
    clear hm hb
    go_enter Try.func11, Try.ntmps11
    go_wp2
    go_ret2
    exact BitsPost.none _ _ _ _ HI.out (Below.refl _ _)
  · obtain ⟨n, rfl⟩ := Int.eq_ofNat_of_zero_le (show 0 ≤ N by omega)
    by_cases h1 : n ≤ 8 * m
    · exact rbits_in A m c b n hm hmc h1 w hb
    · have HI : Hid (Word.isBitsI b n = false) := Lib.hid (by unfold Word.isBitsI; rw [Int.toNat_natCast, Word.isBits_no b n (by omega), Bool.and_false])
      have h2 : 8 * (m : Int) < (n : Int) := by omega
      clear hm hb h1
      go_enter Try.func11, Try.ntmps11
      go_wp2
      go_ret2
      exact BitsPost.none _ _ _ _ HI.out (Below.refl _ _)
end Go.Proofs.Ytglejgfmdgjijaa
