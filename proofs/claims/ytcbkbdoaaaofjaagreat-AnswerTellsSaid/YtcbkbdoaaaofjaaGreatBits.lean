
/-
  Bits: the bits of bytes.
-/
import Derived.Test.YtcbkbdoaaaofjaaGreatSmall
namespace Go.Proofs.YtcbkbdoaaaofjaaGreat
open Go.RowKit

namespace Word
def isBitsI (b : List UInt8) (N : Int) : Bool := decide (0 ≤ N) && isBits b N.toNat
def ansBitsI (b : List UInt8) (N : Int) : List Bool := if isBitsI b N then bitsOf b N.toNat else []
theorem take_set {α : Type} (cs : List α) (j : Nat) (y : α) (h : j < cs.length) : (cs.set j y).take (j + 1) = cs.take j ++ [y] := by
  rw [List.take_succ_eq_append_getElem (by rw [List.length_set]; exact h), List.getElem_set_self]
  congr 1
  apply List.ext_getElem
  · simp
  · intro i h1 h2
    simp at h1 h2
    rw [List.getElem_take, List.getElem_take, List.getElem_set_ne (by omega)]
theorem bitsOf_succ (b : List UInt8) (j : Nat) : bitsOf b (j + 1) = bitsOf b j ++ [bitAt b j] := by
  unfold bitsOf
  rw [List.range_succ, List.map_append, List.map_cons, List.map_nil]
end Word

/-- What Bits leaves. -/
def BitsPost (w : World) (b : List UInt8) (N : Int) (e : Ending) (w' : World) : Prop :=
  ∃ A' n' c', e = .returned (.tuple #[.slice A' n' c', .bool (Word.isBitsI b N)]) ∧ (Word.ansBitsI b N).length = n' ∧ n' ≤ c' ∧ c' ≤ maxLen ∧ Lies bitv w' A' (Word.ansBitsI b N) ∧ Below w.heap.size w w' ∧ ∀ b o s, A' = some ⟨b, o, s⟩ → 0 < n' → w.heap.size ≤ b
theorem BitsPost.none (w w' : World) (b : List UInt8) (N : Int) (h : Word.isBitsI b N = false) (hb : Below w.heap.size w w') : BitsPost w b N (.returned (.tuple #[.slice Option.none 0 0, .bool false])) w' :=
  have hc : Word.ansBitsI b N = [] := by unfold Word.ansBitsI; rw [h]; rfl
  ⟨Option.none, 0, 0, by rw [h], by rw [hc]; rfl, Nat.le_refl _, Nat.zero_le _, by rw [hc]; exact Lies.nil _ _, hb, by rintro _ _ _ h; cases h⟩
theorem BitsPost.some (w w' : World) (b : List UInt8) (n : Nat) (A : Option Addr) (c : Nat) (h : Word.isBitsI b n = true) (hc : n ≤ c) (hm : c ≤ maxLen) (hy : Lies bitv w' A (Word.bitsOf b n)) (hb : Below w.heap.size w w') (hf : ∀ b o s, A = some ⟨b, o, s⟩ → 0 < n → w.heap.size ≤ b) :
    BitsPost w b n (.returned (.tuple #[.slice A n c, .bool true])) w' :=
  have hc' : Word.ansBitsI b n = Word.bitsOf b n := by unfold Word.ansBitsI; rw [h]; rfl
  ⟨A, n, c, by rw [h], by rw [hc', Word.bitsOf_length], hc, hm, by rw [hc']; exact hy, hb, hf⟩

theorem bit_val (x r : Nat) (h : x < 2 ^ 8) : (bits .and .u8 ((x : Int) / (2 : Int) ^ r) 1 == (1 : Int)) = decide (x / 2 ^ r % 2 = 1) := by
  have hq : x / 2 ^ r ≤ x := Nat.div_le_self _ _
  have e : ((x : Int) / (2 : Int) ^ r) = ((x / 2 ^ r : Nat) : Int) := by rw [Int.natCast_ediv, Int.natCast_pow]; rfl
  rw [e, show (1 : Int) = ((1 : Nat) : Int) from rfl, u8_and_nat _ 1 (by omega) (by omega), Nat.and_one_is_mod]
  rcases Nat.mod_two_eq_zero_or_one (x / 2 ^ r) with h' | h' <;> rw [h'] <;> rfl
theorem shr_zero (x r : Nat) (h : x / 2 ^ r = 0) : ((x : Int) / (2 : Int) ^ r != 0) = false := by
  have e : ((x : Int) / (2 : Int) ^ r) = ((x / 2 ^ r : Nat) : Int) := by rw [Int.natCast_ediv, Int.natCast_pow]; rfl
  rw [e, h]
  rfl
theorem shr_more (x r : Nat) (h : x / 2 ^ r ≠ 0) : ((x : Int) / (2 : Int) ^ r != 0) = true := by
  have e : ((x : Int) / (2 : Int) ^ r) = ((x / 2 ^ r : Nat) : Int) := by rw [Int.natCast_ediv, Int.natCast_pow]; rfl
  rw [e, bne_iff_ne]
  omega

set_option maxRecDepth 100000 in
set_option maxHeartbeats 400000 in
theorem bits_yes (A : Option Addr) (m c : Nat) (b : List UInt8) (n : Nat) (hm : b.length = m) (hmc : m ≤ 20000) (hy : Word.isBits b n = true) (w : World) (hb : Lies u8v w A b) :
    Calls Tryz.prog 59 #[.slice A m c, .int .i64 (n : Int)] w (BitsPost w b n) := by
  have hlen := Word.isBits_length hy
  subst hm
  have hn : n ≤ 160000 := by omega
  obtain ⟨i0, hi0, hz0, hz1, hz2⟩ := info_parts kitb.hi
  have HI : Hid (Word.isBitsI b n = true) := Lib.hid (by unfold Word.isBitsI; simp [hy])
  have hte : ((b.length : Int) != ((n : Int) + 7) / 8) = false := by rw [bne_eq_false_iff_eq]; omega
  have HLEN := Lib.hid hlen
  have HY : Hid (n % 8 = 0 ∨ (b.getD (n / 8) 0).toNat / 2 ^ (n % 8) = 0) := Lib.hid (by
    unfold Word.isBits at hy
    rw [Bool.and_eq_true, Bool.or_eq_true, beq_iff_eq, beq_iff_eq, beq_iff_eq] at hy
    exact hy.2)
  clear hy hlen
  by_cases h8 : n % 8 = 0
  · have h8' : ((n : Int) % 8 != 0) = false := by rw [bne_eq_false_iff_eq]; omega
    clear h8
    go_enter Tryz.func59, Tryz.ntmps59
    go_wp2_with (first
      | (go_at_call 102; refine (taken_any n (by omega) _).mono ?_; rintro e w' ⟨rfl, rfl⟩)
      | (at_make; go_must (refine wpList_make_full _ rfl _ _ 23 rfl w.heap.size 4 i0 (.bool false) 1 kitb.ht hi0 hz0 hz1 .i64 .i64 _ _ n rfl rfl (by omega) (by omega) (by rw [hz2]; omega) (by unfold maxLen; omega) (Nat.le_refl _) ?_); intro w1 hown1 hg1; have hb1 : Below w.heap.size w w1 := (Below.refl _ _).grown hg1 (Nat.le_refl _) (by simp)))
    go_loopw [37] (fun iv wr => ∃ j : Nat, j ≤ n ∧ iv = .int .i64 j ∧ ∃ cs : List Bool, Hid (cs.length = n) ∧ Hid (cs.take j = Word.bitsOf b j) ∧ wr.ownsRow w.heap.size 4 1 (.slice (some ⟨w.heap.size, 0, none⟩) n n) n (cs.map bitv) ∧ Below w.heap.size w wr) (fun iv _ => n - (intOf iv).toNat)
    case atStart => exact ⟨0, by omega, rfl, List.replicate n false, Lib.hid (by simp), Lib.hid rfl, by rw [List.map_replicate, ← toList_madeCells_one, Nat.mul_one] at *; exact hown1, hb1⟩
    case round =>
      clear hown1 hb1 hg1 w1
      obtain ⟨j, hj, rfl, cs, HC, HT, hown, hbe⟩ := hrel
      have hzr := hbe.size
      by_cases hlt : j < n
      · have hq : j / 8 < b.length := by have := HLEN.out; omega
        obtain ⟨b1, o1, rfl, hc1⟩ := (hb.below hbe (Nat.le_refl _)) (j / 8) hq
        have HB : Hid (Word.bitAt b j = decide ((b[j / 8]).toNat / 2 ^ (j % 8) % 2 = 1)) := Lib.hid (by unfold Word.bitAt; rw [List.getD_eq_getElem?_getD, List.getElem?_eq_getElem hq, Option.getD_some])
        have hx := (b[j / 8]).toNat_lt
        unfold u8v at hc1
        generalize (b[j / 8]).toNat = x at hc1 HB hx
        have hci := hown.cellAt j (by omega)
        have hfi := hown.frozenAt j
        rw [List.getElem?_map, List.getElem?_eq_getElem (by have := HC.out; omega), Option.map_some] at hci
        have hgl := (hown.lt w.heap.size rfl).2
        have hr8 : j % 8 < 8 := by omega
        have hbv := bit_val x (j % 8) hx
        rw [← HB.out] at hbv
        go_wp2
        have hst := (hown.stored j (.bool (Word.bitAt b j))).1
        rw [show (List.map bitv cs).set j (.bool (Word.bitAt b j)) = (cs.set j (Word.bitAt b j)).map bitv by rw [List.map_set]] at hst
        first | rw [hbv] | skip
        exact ⟨⟨j + 1, by omega, by simp, cs.set j (Word.bitAt b j), Lib.hid (by rw [List.length_set]; exact HC.out), Lib.hid (by rw [Word.take_set cs j _ (by have := HC.out; omega), HT.out, Word.bitsOf_succ]), hst, hbe.setCell (p := ⟨w.heap.size, j, none⟩) (Nat.le_refl _) _⟩, by simp [intOf]; omega⟩
      · obtain rfl : j = n := by omega
        have hcs : cs = Word.bitsOf b j := by have := HT.out; rwa [← HC.out, List.take_length, HC.out] at this
        rw [hcs] at hown
        go_wp2
        go_ret2
        obtain ⟨h1, h2, h3, h4⟩ := own_at hown
        exact BitsPost.some _ _ _ _ _ _ HI.out h1 h2 h4 hbe (fun b o s e _ => by cases e; exact Nat.le_refl _)
  · have h8' : ((n : Int) % 8 != 0) = true := by rw [bne_iff_ne]; omega
    have hlen := HLEN.out
    obtain ⟨q, hq⟩ : ∃ q, n / 8 = q := ⟨_, rfl⟩
    have hql : q < b.length := by omega
    have hL1 : (b.length : Int) - 1 = (q : Int) := by omega
    have hy2 : (b.getD (n / 8) 0).toNat / 2 ^ (n % 8) = 0 := by
      rcases HY.out with h | h
      · exact absurd h h8
      · exact h
    rw [hq, List.getD_eq_getElem?_getD, List.getElem?_eq_getElem hql, Option.getD_some] at hy2
    obtain ⟨b1, o1, rfl, hc1⟩ := hb q hql
    have hs := shr_zero _ _ hy2
    unfold u8v at hc1
    generalize b[q].toNat = x at hc1 hs
    clear h8 hlen hq hy2
    go_enter Tryz.func59, Tryz.ntmps59
    go_wp2_with (first
      | (go_at_call 102; refine (taken_any n (by omega) _).mono ?_; rintro e w' ⟨rfl, rfl⟩)
      | (at_make; go_must (refine wpList_make_full _ rfl _ _ 23 rfl w.heap.size 4 i0 (.bool false) 1 kitb.ht hi0 hz0 hz1 .i64 .i64 _ _ n rfl rfl (by omega) (by omega) (by rw [hz2]; omega) (by unfold maxLen; omega) (Nat.le_refl _) ?_); intro w1 hown1 hg1; have hb1 : Below w.heap.size w w1 := (Below.refl _ _).grown hg1 (Nat.le_refl _) (by simp)))
    go_loopw [37] (fun iv wr => ∃ j : Nat, j ≤ n ∧ iv = .int .i64 j ∧ ∃ cs : List Bool, Hid (cs.length = n) ∧ Hid (cs.take j = Word.bitsOf b j) ∧ wr.ownsRow w.heap.size 4 1 (.slice (some ⟨w.heap.size, 0, none⟩) n n) n (cs.map bitv) ∧ Below w.heap.size w wr) (fun iv _ => n - (intOf iv).toNat)
    case atStart => exact ⟨0, by omega, rfl, List.replicate n false, Lib.hid (by simp), Lib.hid rfl, by rw [List.map_replicate, ← toList_madeCells_one, Nat.mul_one] at *; exact hown1, hb1⟩
    case round =>
      clear hown1 hb1 hg1 w1 hc1 hs hL1 hql
      obtain ⟨j, hj, rfl, cs, HC, HT, hown, hbe⟩ := hrel
      have hzr := hbe.size
      by_cases hlt : j < n
      · have hq : j / 8 < b.length := by have := HLEN.out; omega
        obtain ⟨b2, o2, hA2, hc1⟩ := (hb.below hbe (Nat.le_refl _)) (j / 8) hq
        cases hA2
        have HB : Hid (Word.bitAt b j = decide ((b[j / 8]).toNat / 2 ^ (j % 8) % 2 = 1)) := Lib.hid (by unfold Word.bitAt; rw [List.getD_eq_getElem?_getD, List.getElem?_eq_getElem hq, Option.getD_some])
        have hx := (b[j / 8]).toNat_lt
        unfold u8v at hc1
        generalize (b[j / 8]).toNat = x at hc1 HB hx
        have hci := hown.cellAt j (by omega)
        have hfi := hown.frozenAt j
        rw [List.getElem?_map, List.getElem?_eq_getElem (by have := HC.out; omega), Option.map_some] at hci
        have hgl := (hown.lt w.heap.size rfl).2
        have hr8 : j % 8 < 8 := by omega
        have hbv := bit_val x (j % 8) hx
        rw [← HB.out] at hbv
        go_wp2
        have hst := (hown.stored j (.bool (Word.bitAt b j))).1
        rw [show (List.map bitv cs).set j (.bool (Word.bitAt b j)) = (cs.set j (Word.bitAt b j)).map bitv by rw [List.map_set]] at hst
        first | rw [hbv] | skip
        exact ⟨⟨j + 1, by omega, by simp, cs.set j (Word.bitAt b j), Lib.hid (by rw [List.length_set]; exact HC.out), Lib.hid (by rw [Word.take_set cs j _ (by have := HC.out; omega), HT.out, Word.bitsOf_succ]), hst, hbe.setCell (p := ⟨w.heap.size, j, none⟩) (Nat.le_refl _) _⟩, by simp [intOf]; omega⟩
      · obtain rfl : j = n := by omega
        have hcs : cs = Word.bitsOf b j := by have := HT.out; rwa [← HC.out, List.take_length, HC.out] at this
        rw [hcs] at hown
        go_wp2
        go_ret2
        obtain ⟨h1, h2, h3, h4⟩ := own_at hown
        exact BitsPost.some _ _ _ _ _ _ HI.out h1 h2 h4 hbe (fun b o s e _ => by cases e; exact Nat.le_refl _)

set_option maxRecDepth 100000 in
set_option maxHeartbeats 400000 in
theorem bits_any (A : Option Addr) (m c : Nat) (b : List UInt8) (N : Int) (hN : N ≤ 9223372036854775807) (hm : b.length = m) (hmc : m ≤ 20000) (w : World) (hb : Lies u8v w A b) :
    Calls Tryz.prog 59 #[.slice A m c, .int .i64 N] w (BitsPost w b N) := by
  by_cases h0 : N < 0
  · have HI : Hid (Word.isBitsI b N = false) := Lib.hid (by unfold Word.isBitsI; rw [decide_eq_false (by omega), Bool.false_and])
    clear hm hb
    go_enter Tryz.func59, Tryz.ntmps59
    go_wp2
    go_ret2
    exact BitsPost.none _ _ _ _ HI.out (Below.refl _ _)
  · obtain ⟨n, rfl⟩ := Int.eq_ofNat_of_zero_le (show 0 ≤ N by omega)
    cases hy : Word.isBits b n with
    | true => exact bits_yes A m c b n hm hmc hy w hb
    | false =>
      have HI : Hid (Word.isBitsI b n = false) := Lib.hid (by unfold Word.isBitsI; rw [Int.toNat_natCast, hy, Bool.and_false])
      subst hm
      by_cases hlen : b.length = (n + 7) / 8
      · have hn : n ≤ 160000 := by omega
        have hy2 : n % 8 ≠ 0 ∧ (b.getD (n / 8) 0).toNat / 2 ^ (n % 8) ≠ 0 := by
          unfold Word.isBits at hy
          rw [beq_iff_eq.2 hlen, Bool.true_and, Bool.or_eq_false_iff, beq_eq_false_iff_ne, beq_eq_false_iff_ne] at hy
          exact hy
        obtain ⟨h8, hy3⟩ := hy2
        have hte : ((b.length : Int) != ((n : Int) + 7) / 8) = false := by rw [bne_eq_false_iff_eq]; omega
        have h8' : ((n : Int) % 8 != 0) = true := by rw [bne_iff_ne]; omega
        obtain ⟨q, hq⟩ : ∃ q, n / 8 = q := ⟨_, rfl⟩
        have hql : q < b.length := by omega
        have hL1 : (b.length : Int) - 1 = (q : Int) := by omega
        rw [hq, List.getD_eq_getElem?_getD, List.getElem?_eq_getElem hql, Option.getD_some] at hy3
        obtain ⟨b1, o1, rfl, hc1⟩ := hb q hql
        have hs := shr_more _ _ hy3
        unfold u8v at hc1
        generalize b[q].toNat = x at hc1 hs
        clear h8 hlen hq hy3 hy
        go_enter Tryz.func59, Tryz.ntmps59
        go_wp2_with (go_at_call 102; refine (taken_any n (by omega) _).mono ?_; rintro e w' ⟨rfl, rfl⟩)
        go_ret2
        exact BitsPost.none _ _ _ _ HI.out (Below.refl _ _)
      · have hte : ((b.length : Int) != ((n : Int) + 7) / 8) = true := by rw [bne_iff_ne]; omega
        clear hlen hy hb
        go_enter Tryz.func59, Tryz.ntmps59
        go_wp2_with (go_at_call 102; refine (taken_any n (by omega) _).mono ?_; rintro e w' ⟨rfl, rfl⟩)
        go_ret2
        exact BitsPost.none _ _ _ _ HI.out (Below.refl _ _)
end Go.Proofs.YtcbkbdoaaaofjaaGreat
