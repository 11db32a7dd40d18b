
/-
  The document's layer 2, as later layers call it: Put, Bytes, Words, Pack, and whether words, bits are the same.
-/
import Derived.Test.YtaembpncoicdpaaKit
import Derived.Test.YtaembpncoicdpaaSmall
import Derived.Test.YtaembpncoicdpaaWords
import Derived.Test.YtaembpncoicdpaaWm
import Derived.Laws.BitsAllLaws
import Derived.Deep.RegionLaw
import Derived.RangeFuncBox
import Derived.Laws.Cover3
namespace Go.Proofs.Ytaembpncoicdpaa
open Go.RowKit

theorem Word.range_succ_map {β : Type} (g : Nat → β) (k : Nat) : (List.range (k + 1)).map g = (List.range k).map g ++ [g k] := by rw [List.range_succ, List.map_append, List.map_cons, List.map_nil]
namespace Word
/-- The bytes of the first j bits, with the byte of bit j opened. -/
def packTo (l : List Bool) (j : Nat) : List UInt8 := (List.range (j / 8 + 1)).map (packAt (l.take j))
/-- What byte j / 8 holds before bit j comes. -/
def part (l : List Bool) (j : Nat) : Nat := val ((l.drop (8 * (j / 8))).take (j % 8))
theorem packAt_take (l : List Bool) (j k : Nat) : packAt (l.take j) k = UInt8.ofNat (val ((l.drop (8 * k)).take (min 8 (j - 8 * k)))) := by
  unfold packAt
  rw [List.drop_take, List.take_take]
theorem part_lt (l : List Bool) (j : Nat) (hj : j ≤ l.length) : part l j < 2 ^ (j % 8) := by
  have := val_lt ((l.drop (8 * (j / 8))).take (j % 8))
  rw [List.length_take, List.length_drop, Nat.min_eq_left (by omega)] at this
  exact this
theorem packTo_last (l : List Bool) (j : Nat) : packAt (l.take j) (j / 8) = UInt8.ofNat (part l j) := by
  rw [packAt_take, show min 8 (j - 8 * (j / 8)) = j % 8 by omega]
  rfl
theorem pack_nil : pack [] = [] := rfl
theorem packTo_length (l : List Bool) (j : Nat) : (packTo l j).length = j / 8 + 1 := by simp [packTo]
theorem packTo_zero (l : List Bool) (j : Nat) (hj : j ≤ l.length) (h : j % 8 = 0) : pack (l.take j) ++ [0] = packTo l j := by
  unfold pack packTo
  rw [List.length_take, Nat.min_eq_left hj, show (j + 7) / 8 = j / 8 by omega, List.range_succ, List.map_append, List.map_cons, List.map_nil, packTo_last, part, h, List.take_zero]
  rfl
theorem packTo_more (l : List Bool) (j : Nat) (hj : j ≤ l.length) (h : j % 8 ≠ 0) : pack (l.take j) = packTo l j := by
  unfold pack packTo
  rw [List.length_take, Nat.min_eq_left hj, show (j + 7) / 8 = j / 8 + 1 by omega]
theorem part_val (l : List Bool) (j : Nat) (hj : j < l.length) : val ((l.drop (8 * (j / 8))).take (j % 8 + 1)) = part l j + 2 ^ (j % 8) * l[j].toNat := by
  have h1 : j % 8 < (l.drop (8 * (j / 8))).length := by rw [List.length_drop]; omega
  rw [List.take_succ_eq_append_getElem h1, val_snoc, List.length_take, Nat.min_eq_left (by omega), List.getElem_drop]
  unfold part
  congr 4
  omega
theorem pack_step (l : List Bool) (j : Nat) (hj : j < l.length) : pack (l.take (j + 1)) = (packTo l j).set (j / 8) (UInt8.ofNat (part l j + 2 ^ (j % 8) * l[j].toNat)) := by
  have hlen : (pack (l.take (j + 1))).length = j / 8 + 1 := by rw [pack_length, List.length_take]; omega
  apply List.ext_getElem
  · rw [List.length_set, packTo_length, hlen]
  · intro k h1 h2
    rw [hlen] at h1
    have e1 : (pack (l.take (j + 1)))[k]'(by rw [hlen]; exact h1) = packAt (l.take (j + 1)) k := by simp [pack]
    rw [e1, packAt_take]
    by_cases hk : k = j / 8
    · subst hk
      rw [List.getElem_set_self, show min 8 (j + 1 - 8 * (j / 8)) = j % 8 + 1 by omega, part_val l j hj]
    · rw [List.getElem_set_ne (by omega)]
      simp only [packTo, List.getElem_map, List.getElem_range]
      rw [packAt_take, show min 8 (j + 1 - 8 * k) = 8 by omega, show min 8 (j - 8 * k) = 8 by omega]
theorem pack_skip (l : List Bool) (j : Nat) (hj : j < l.length) (h : l[j] = false) : pack (l.take (j + 1)) = packTo l j := by
  rw [pack_step l j hj, h, show false.toNat = 0 from rfl, Nat.mul_zero, Nat.add_zero, ← packTo_last]
  apply List.ext_getElem
  · rw [List.length_set]
  · intro k h1 h2
    by_cases hk : k = j / 8
    · subst hk
      rw [List.getElem_set_self]
      simp [packTo]
    · rw [List.getElem_set_ne (by omega)]
end Word

end Go.Proofs.Ytaembpncoicdpaa
