
/-
  The small functions of package word: Put, get, taken, layWord, layBits.
-/
import Derived.Test.YtcbkbdoaaaofjaaGreatKit
import Derived.Test.YtcbkbdoaaaofjaaGreatWm
import Derived.WalkKit
import Derived.Outline
import Derived.Below
import Derived.Lib.Hide
import Derived.Laws.BitsAllLaws
import Derived.Deep.QuietTactic
import Derived.Deep.DeepMust
import Derived.BigQuiet
namespace Go.Proofs.YtcbkbdoaaaofjaaGreat
open Go.RowKit

theorem kit16 : EK Tryz.prog 22 24 (.int .u16 0) 2 := ⟨Tryz.underlying22, by kernel_rfl, rfl⟩
theorem kitb : EK Tryz.prog 23 4 (.bool false) 1 := ⟨Tryz.underlying23, by kernel_rfl, rfl⟩
theorem one16 : ∀ x : UInt16, (u16v x).oneCell' = true := fun _ => rfl
theorem oneb : ∀ x : Bool, (bitv x).oneCell' = true := fun _ => rfl

theorem grown_of_below {w w' : World} (h : Below w.heap.size w w') (row : Option Nat) : w.grownBy w' row := ⟨h.os, h.tape, h.output, h.size, fun k hk _ => h.block k hk⟩

/-- A word's bytes as an array. -/
def twov (x : UInt16) : Value := .agg ((Word.two x).map u8v).toArray
theorem twov_eq (x : UInt16) : twov x = .agg #[.int .u8 ((x.toNat / 256 : Nat) : Int), .int .u8 ((x.toNat % 256 : Nat) : Int)] := by
  have h := x.toNat_lt
  have e2 : x.toNat / 256 % 256 = x.toNat / 256 := Nat.mod_eq_of_lt (by omega)
  simp [twov, Word.two, u8v, e2]

theorem two_map (x : UInt16) : (Word.two x).map u8v = [.int .u8 ((x.toNat : Int) / 256), .int .u8 ((x.toNat : Int) % 256)] := by
  have := twov_eq x
  simp only [twov, Value.agg.injEq] at this
  have h2 := congrArg Array.toList this
  simpa using h2
set_option maxHeartbeats 400000 in
theorem put_any (x : UInt16) (w : World) :
    Calls Tryz.prog 123 #[u16v x] w fun e w' => e = .returned (twov x) ∧ Below w.heap.size w w' := by
  have h := x.toNat_lt
  rw [twov_eq]
  unfold u16v
  generalize x.toNat = m at *
  go_enter Tryz.func123, Tryz.ntmps123
  go_wp2
  refine bodyPost_ret_by (v := .agg #[.int .u8 ((m : Int) / 256), .int .u8 ((m : Int) % 256)]) (by simp [results, Tryz.f123, go_sem]) rfl ?_
  exact ⟨by rw [Int.natCast_ediv, Int.natCast_emod]; rfl, (Below.refl _ _).alloc (Nat.le_refl _) _⟩
set_option maxHeartbeats 400000 in
theorem rput_any (x : UInt16) (w : World) :
    Calls Tryz.prog 79 #[u16v x] w fun e w' => e = .returned (twov x) ∧ Below w.heap.size w w' := by
  have h := x.toNat_lt
  rw [twov_eq]
  unfold u16v
  generalize x.toNat = m at *
  go_enter Tryz.func79, Tryz.ntmps79
  go_wp2
  refine bodyPost_ret_by (v := .agg #[.int .u8 ((m : Int) / 256), .int .u8 ((m : Int) % 256)]) (by simp [results, Tryz.f79, go_sem]) rfl ?_
  exact ⟨by rw [Int.natCast_ediv, Int.natCast_emod]; rfl, (Below.refl _ _).alloc (Nat.le_refl _) _⟩
set_option maxHeartbeats 400000 in
theorem taken_any (m : Nat) (h : m ≤ 9223372036854775807) (w : World) :
    Calls Tryz.prog 102 #[.int .i64 (m : Int)] w fun e w' => e = .returned (.int .i64 (((m + 7) / 8 : Nat) : Int)) ∧ w = w' := by
  go_enter Tryz.func102, Tryz.ntmps102
  go_wp2
  all_goals go_ret
  all_goals refine ⟨?_, rfl⟩
  all_goals congr 2
  all_goals simp at *
  all_goals omega

set_option maxHeartbeats 400000 in
theorem get_any (a b : UInt8) (w : World) :
    Calls Tryz.prog 137 #[.agg #[u8v a, u8v b]] w fun e w' => e = .returned (u16v (Word.word a b)) ∧ Below w.heap.size w w' := by
  have ha := a.toNat_lt
  have hb := b.toNat_lt
  have hv : ((Word.word a b).toNat : Int) = 256 * (a.toNat : Int) + b.toNat := by
    unfold Word.word
    rw [UInt16.toNat_ofNat']
    omega
  unfold u8v u16v
  rw [hv]
  generalize a.toNat = x at *
  generalize b.toNat = y at *
  clear hv
  have hor : bits .or .u16 ((x : Int) * 256) (y : Int) = 256 * (x : Int) + y := by
    have := u16_or_nat (x * 256) y (by omega) (by omega)
    rw [Nat.mul_comm x 256, show 256 = 2 ^ 8 from rfl, ← Nat.two_pow_add_eq_or_of_lt (by omega)] at this
    rw [Int.mul_comm]
    simpa using this
  go_enter Tryz.func137, Tryz.ntmps137
  go_wp2
  go_ret
  exact ⟨rfl, (Below.refl _ _).alloc (Nat.le_refl _) _⟩

set_option maxRecDepth 100000 in
set_option maxHeartbeats 400000 in
theorem layWord_any (x : UInt16) (B : Nat) (v : Value) (n : Nat) (xs : List UInt8) (w : World) (hown : w.ownsRow B 5 1 v n (xs.map u8v)) (hB : B ≤ w.heap.size) (h47 : n ≤ 100000) :
    Calls Tryz.prog 110 #[v, u16v x] w fun e w' => ∃ A c, e = .returned (.slice A (n + 2) c) ∧ w'.ownsRow B 5 1 (.slice A (n + 2) c) (n + 2) ((xs ++ Word.two x).map u8v) ∧ w.grownBy w' v.ownBlock := by
  go_enter Tryz.func110, Tryz.ntmps110
  go_wp2_with fail
  refine (put_any x _).mono ?_
  rintro e w1 ⟨rfl, hbe1⟩
  have hg1 := grown_of_below hbe1 v.ownBlock
  have hown1 := own_below hown hbe1
  have hz := hbe1.size
  rw [twov_eq]
  go_wp2_with (first
    | (at_builtin; go_must (refine wpList_append_lies kit8 one8 _ rfl (.tmp 8) (.tmp 9) rfl B _ n xs rfl (hown1.alloc _) (some ⟨w1.heap.size, 0, none⟩) 2 2 (Word.two x) rfl rfl (lies_new _ _ _ _ (by rw [two_map])) (by omega) (by unfold maxLen; omega) (by simp; omega) ?_; intro A2 c2 w2 hown2 hg2 hb2)))
  go_ret
  exact ⟨A2, c2, rfl, hown2, hg1.trans ((World.grownBy_alloc _ _ _).trans hg2)⟩

theorem or_shift (x j : Nat) (hx : x < 2 ^ j) (hj : j < 8) : bits .or .u8 (x : Int) ((2 ^ j : Nat) : Int) = ((x + 2 ^ j : Nat) : Int) := by
  have h2 : 2 ^ j ≤ 128 := Nat.pow_le_pow_right (n := 2) (by omega) (show j ≤ 7 by omega)
  rw [u8_or_nat x (2 ^ j) (by omega) (by omega)]
  have := Nat.two_pow_add_eq_or_of_lt hx 1
  rw [Nat.mul_one] at this
  rw [Nat.or_comm, ← this, Nat.add_comm]
theorem val_take_succ (l : List Bool) (j : Nat) (hj : j < l.length) : Word.val (l.take (j + 1)) = Word.val (l.take j) + 2 ^ j * l[j].toNat := by
  rw [List.take_succ_eq_append_getElem hj, Word.val_snoc, List.length_take, Nat.min_eq_left (by omega)]

theorem val_map (l : List Bool) (h : l.length ≤ 8) : [Value.int .u8 ((Word.val l : Nat) : Int)] = [UInt8.ofNat (Word.val l)].map u8v := by
  have := Word.val_small l h
  simp only [List.map_cons, List.map_nil, u8v, UInt8.toNat_ofNat']
  rw [Nat.mod_eq_of_lt (by omega)]
set_option maxRecDepth 100000 in
set_option maxHeartbeats 400000 in
theorem layBits_any (A : Option Addr) (m c : Nat) (l : List Bool) (hm : l.length = m) (h8 : m ≤ 8) (B : Nat) (v : Value) (n : Nat) (xs : List UInt8) (w : World) (hl : Lies bitv w A l) (hown : w.ownsRow B 5 1 v n (xs.map u8v)) (hB : B ≤ w.heap.size) (h47 : n ≤ 100000) :
    Calls Tryz.prog 103 #[v, .slice A m c] w fun e w' => ∃ A c, e = .returned (.slice A (n + 1) c) ∧ w'.ownsRow B 5 1 (.slice A (n + 1) c) (n + 1) ((xs ++ [UInt8.ofNat (Word.val l)]).map u8v) ∧ w.grownBy w' v.ownBlock := by
  subst hm
  go_enter Tryz.func103, Tryz.ntmps103
  go_wp2
  go_loopw [5, 10] (fun one i wr => ∃ j : Nat, j ≤ l.length ∧ i = .int .i64 j ∧ one = .int .u8 ((Word.val (l.take j) : Nat) : Int) ∧ wr = w) (fun _ i _ => l.length - (intOf i).toNat)
  case atStart => exact ⟨0, Nat.zero_le _, rfl, rfl, rfl⟩
  case round =>
    obtain ⟨j, hj, rfl, rfl, rfl⟩ := hrel
    by_cases hlt : j < l.length
    · obtain ⟨b1, o1, rfl, hc1⟩ := hl j hlt
      have hs := val_take_succ l j hlt
      have hv : Word.val (l.take j) < 2 ^ j := by have := Word.val_lt (l.take j); rwa [List.length_take, Nat.min_eq_left hj] at this
      have ho := or_shift _ j hv (by omega)
      unfold bitv at hc1
      generalize Word.val (l.take j) = x at *
      cases hbit : l[j] with
      | false =>
        rw [hbit] at hc1 hs
        go_wp2
        exact ⟨⟨j + 1, by omega, by simp, by rw [hs]; simp, trivial⟩, by simp [intOf]; omega⟩
      | true =>
        rw [hbit] at hc1 hs
        have hp : ((2 : Int) ^ j % 256) = ((2 ^ j : Nat) : Int) := by
          have h2 : 2 ^ j ≤ 128 := Nat.pow_le_pow_right (n := 2) (by omega) (show j ≤ 7 by omega)
          rw [Int.natCast_pow]
          have h3 : ((2 ^ j : Nat) : Int) = (2 : Int) ^ j := Int.natCast_pow 2 j
          exact Int.emod_eq_of_lt (by omega) (by omega)
        have ho' : bits .or .u8 (x : Int) ((2 : Int) ^ j) = ((x + 2 ^ j : Nat) : Int) := by rw [← ho, Int.natCast_pow]; rfl
        go_wp2
        exact ⟨⟨j + 1, by omega, by simp, by rw [hs]; simp, trivial⟩, by simp [intOf]; omega⟩
    · obtain rfl : j = l.length := by omega
      rw [List.take_length]
      have hv := Word.val_small l h8
      have HY := Lib.hid (val_map l h8)
      go_wp2_with (first
        | (at_builtin; go_must (refine wpList_append_lies kit8 one8 _ rfl (.tmp 21) (.tmp 23) rfl B _ n xs rfl (hown.alloc _) (some ⟨wr.heap.size, 0, none⟩) 1 1 [UInt8.ofNat (Word.val l)] rfl rfl (lies_new _ _ _ _ HY.out) (by omega) (by unfold maxLen; omega) (by simp; omega) ?_; intro A2 c2 w2 hown2 hg2 hb2)))
      go_ret
      exact ⟨A2, c2, rfl, hown2, (World.grownBy_alloc _ _ _).trans hg2⟩
end Go.Proofs.YtcbkbdoaaaofjaaGreat
