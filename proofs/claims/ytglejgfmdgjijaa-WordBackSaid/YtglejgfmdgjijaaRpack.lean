/-
  The document's Pack.
-/
import Derived.Test.YtglejgfmdgjijaaBits
import Derived.RangeFuncBox
namespace Go.Proofs.Ytglejgfmdgjijaa
open Go.RowKit

namespace Word
/-- The bytes of the first j bits, with the byte of bit j opened. -/
def packTo (l : List Bool) (j : Nat) : List UInt8 := (List.range (j / 8 + 1)).map (packAt (l.take j))
/-- What byte j / 8 holds before bit j comes. -/
def part (l : List Bool) (j : Nat) : Nat := val ((l.drop (8 * (j / 8))).take (j % 8))
theorem packAt_take (l : List Bool) (j k : Nat) : packAt (l.take j) k = UInt8.ofNat (val ((l.drop (8 * k)).take (min 8 (j - 8 * k)))) := by
  unfold packAt
  rw [List.drop_take, List.take_take]
theorem part_lt (l : List Bool) (j : Nat) (hj : j ≤ l.length) : part l j < 2 ^ (j % 8) := by
  have := val_lt ((l.drop (8 * (j / 8))).take (j % 8))
  rw [List.length_take, List.length_drop, Nat.min_eq_left (by omega)] at this
  exact this
theorem packTo_last (l : List Bool) (j : Nat) : packAt (l.take j) (j / 8) = UInt8.ofNat (part l j) := by
  rw [packAt_take, show min 8 (j - 8 * (j / 8)) = j % 8 by omega]
  rfl
theorem pack_nil : pack [] = [] := rfl
theorem packTo_length (l : List Bool) (j : Nat) : (packTo l j).length = j / 8 + 1 := by simp [packTo]
theorem packTo_zero (l : List Bool) (j : Nat) (hj : j ≤ l.length) (h : j % 8 = 0) : pack (l.take j) ++ [0] = packTo l j := by
  unfold pack packTo
  rw [List.length_take, Nat.min_eq_left hj, show (j + 7) / 8 = j / 8 by omega, List.range_succ, List.map_append, List.map_cons, List.map_nil, packTo_last, part, h, List.take_zero]
  rfl
theorem packTo_more (l : List Bool) (j : Nat) (hj : j ≤ l.length) (h : j % 8 ≠ 0) : pack (l.take j) = packTo l j := by
  unfold pack packTo
  rw [List.length_take, Nat.min_eq_left hj, show (j + 7) / 8 = j / 8 + 1 by omega]
theorem part_val (l : List Bool) (j : Nat) (hj : j < l.length) : val ((l.drop (8 * (j / 8))).take (j % 8 + 1)) = part l j + 2 ^ (j % 8) * l[j].toNat := by
  have h1 : j % 8 < (l.drop (8 * (j / 8))).length := by rw [List.length_drop]; omega
  rw [List.take_succ_eq_append_getElem h1, val_snoc, List.length_take, Nat.min_eq_left (by omega), List.getElem_drop]
  unfold part
  congr 4
  omega
theorem pack_step (l : List Bool) (j : Nat) (hj : j < l.length) : pack (l.take (j + 1)) = (packTo l j).set (j / 8) (UInt8.ofNat (part l j + 2 ^ (j % 8) * l[j].toNat)) := by
  have hlen : (pack (l.take (j + 1))).length = j / 8 + 1 := by rw [pack_length, List.length_take]; omega
  apply List.ext_getElem
  · rw [List.length_set, packTo_length, hlen]
  · intro k h1 h2
    rw [hlen] at h1
    have e1 : (pack (l.take (j + 1)))[k]'(by rw [hlen]; exact h1) = packAt (l.take (j + 1)) k := by simp [pack]
    rw [e1, packAt_take]
    by_cases hk : k = j / 8
    · subst hk
      rw [List.getElem_set_self, show min 8 (j + 1 - 8 * (j / 8)) = j % 8 + 1 by omega, part_val l j hj]
    · rw [List.getElem_set_ne (by omega)]
      simp only [packTo, List.getElem_map, List.getElem_range]
      rw [packAt_take, show min 8 (j + 1 - 8 * k) = 8 by omega, show min 8 (j - 8 * k) = 8 by omega]
theorem pack_skip (l : List Bool) (j : Nat) (hj : j < l.length) (h : l[j] = false) : pack (l.take (j + 1)) = packTo l j := by
  rw [pack_step l j hj, h, show false.toNat = 0 from rfl, Nat.mul_zero, Nat.add_zero, ← packTo_last]
  apply List.ext_getElem
  · rw [List.length_set]
  · intro k h1 h2
    by_cases hk : k = j / 8
    · subst hk
      rw [List.getElem_set_self]
      simp [packTo]
    · rw [List.getElem_set_ne (by omega)]
end Word

set_option maxRecDepth 100000 in
set_option maxHeartbeats 1000000 in
theorem rpack_any (A : Option Addr) (n c : Nat) (l : List Bool) (hn : l.length = n) (hm : n ≤ 160000) (w : World) (hb : Lies bitv w A l) :
    Calls Try.prog 17 #[.slice A n c] w fun e w' => ∃ A' c', e = .returned (.slice A' ((n + 7) / 8) c') ∧ (n + 7) / 8 ≤ c' ∧ c' ≤ maxLen ∧ Lies u8v w' A' (Word.pack l) ∧ Below w.heap.size w w' := by
  subst hn
  go_enter Try.func17, Try.ntmps17
  go_wp2
  go_loopw [3, 4, 5] (fun out bit i wr => ∃ (j B K : Nat) (A : Option Addr) (c : Nat), j ≤ l.length ∧ B ≤ 256 ∧ Hid (j % 8 ≠ 0 → B = 2 ^ (j % 8)) ∧ Hid (K = (j + 7) / 8) ∧ i = .int .i64 j ∧ bit = .int .i64 B ∧ out = .slice A K c ∧ wr.ownsRow w.heap.size 5 1 (.slice A K c) K ((Word.pack (l.take j)).map u8v) ∧ Below w.heap.size w wr) (fun _ _ i _ => l.length - (intOf i).toNat)
  case atStart => exact ⟨0, 1, 0, _, _, Nat.zero_le _, by omega, Lib.hid (fun h => absurd rfl h), Lib.hid rfl, rfl, rfl, rfl, by rw [List.take_zero, Word.pack_nil]; exact World.ownsRow_lit _ #[] 0 (Nat.le_refl _) (by unfold maxLen; omega) rfl, (Below.refl _ _).alloc (Nat.le_refl _) _⟩
  case round =>
    obtain ⟨j, B, K, A', c', hj, hB256, HBe, HK, rfl, rfl, rfl, hown, hB⟩ := hrel
    have hz := hB.size
    by_cases hlt : j < l.length
    · obtain ⟨b1, o1, rfl, hc1⟩ := (hb.below hB (Nat.le_refl _)) j hlt
      have HS := Lib.hid (Word.pack_step l j hlt)
      have HN := fun h => Lib.hid (Word.pack_skip l j hlt h)
      have hpl := Word.part_lt l j hj
      unfold bitv at hc1
      by_cases h8 : j % 8 = 0
      · have h8' : ((j : Int) % 8 == 0) = true := by rw [beq_iff_eq]; omega
        obtain rfl : K = j / 8 := by have := HK.out; omega
        have HZ := Lib.hid (Word.packTo_zero l j hj h8)
        have HP0 : Hid (Word.part l j = 0) := Lib.hid (by rw [h8] at hpl; omega)
        have HM8 := Lib.hid h8
        have hq : j / 8 ≤ 160000 := by omega
        have HQ := Lib.hid (show (j + 1 + 7) / 8 = j / 8 + 1 by omega)
        have HL0 := Lib.hid (Word.packTo_length l j)
        have HB1 : Hid ((j + 1) % 8 ≠ 0 → 2 = 2 ^ ((j + 1) % 8)) := Lib.hid (fun _ => by rw [show (j + 1) % 8 = 1 by omega])
        have HG : (Word.packTo l j)[j / 8]? = some (UInt8.ofNat 0) := by rw [List.getElem?_eq_getElem (by rw [Word.packTo_length]; omega), ← HP0.out, ← Word.packTo_last]; simp [Word.packTo]
        clear h8 hpl
        cases hbit : l[j] with
        | false =>
          rw [hbit] at hc1
          have HN1 := HN hbit
          generalize j / 8 = q at *
          go_wp2_with (at_builtin; go_must (refine wpList_append_lies kit8 one8 _ rfl (.tmp 16) (.tmp 17) rfl w.heap.size _ q (Word.pack (l.take j)) rfl (hown.alloc _) (some ⟨wr.heap.size, 0, none⟩) 1 1 [0] rfl rfl (lies_new (f := u8v) wr #[.int .u8 0] 5 [0] rfl) (by omega) (by unfold maxLen; omega) (by simp; omega) ?_; intro A2 c2 w2 hown2 hg2 hb2; rw [HZ.out] at hown2; obtain ⟨g, c3, hA⟩ := ownsRow_succ hown2; cases hA; have hB2 := (hB.alloc hz (.cells #[.int .u8 0] 5)).trans hb2; have hc2 := (hb.below hB2 (Nat.le_refl _)).row j hlt; unfold bitv at hc2; rw [hbit] at hc2; have hci := hown2.cellAt q (by omega); have hfi := hown2.frozenAt q; have hbg := (hown2.lt g rfl).1; rw [List.getElem?_map, HG, Option.map_some] at hci))
          exact ⟨⟨j + 1, 2, q + 1, _, _, by omega, by omega, HB1, Lib.hid HQ.out.symm, by simp, rfl, rfl, by rw [HN1.out]; exact hown2, hB2⟩, by simp [intOf]; omega⟩
        | true =>
          rw [hbit] at hc1
          generalize j / 8 = q at *
          go_wp2_with (at_builtin; go_must (refine wpList_append_lies kit8 one8 _ rfl (.tmp 16) (.tmp 17) rfl w.heap.size _ q (Word.pack (l.take j)) rfl (hown.alloc _) (some ⟨wr.heap.size, 0, none⟩) 1 1 [0] rfl rfl (lies_new (f := u8v) wr #[.int .u8 0] 5 [0] rfl) (by omega) (by unfold maxLen; omega) (by simp; omega) ?_; intro A2 c2 w2 hown2 hg2 hb2; rw [HZ.out] at hown2; obtain ⟨g, c3, hA⟩ := ownsRow_succ hown2; cases hA; have hB2 := (hB.alloc hz (.cells #[.int .u8 0] 5)).trans hb2; have hc2 := (hb.below hB2 (Nat.le_refl _)).row j hlt; unfold bitv at hc2; rw [hbit] at hc2; have hci := hown2.cellAt q (by omega); have hfi := hown2.frozenAt q; have hbg := (hown2.lt g rfl).1; rw [List.getElem?_map, HG, Option.map_some] at hci))
          have hst := (hown2.stored q (.int .u8 1)).1
          have hS := HS.out
          rw [HP0.out, HM8.out, hbit] at hS
          refine ⟨⟨j + 1, 2, q + 1, _, _, by omega, by omega, HB1, Lib.hid HQ.out.symm, by simp, rfl, rfl, ?_, hB2.setCell (p := ⟨g, q, none⟩) hbg _⟩, by simp [intOf]; omega⟩
          rw [hS, List.map_set]
          exact hst
      · have h8' : ((j : Int) % 8 == 0) = false := by rw [beq_eq_false_iff_ne]; omega
        obtain ⟨q, hq⟩ : ∃ q, j / 8 = q := ⟨_, rfl⟩
        obtain rfl : K = q + 1 := by have := HK.out; omega
        have HM := Lib.hid (Word.packTo_more l j hj h8)
        have HBb := Lib.hid (HBe.out h8)
        have hBp : Word.part l j < B := by rw [HBb.out]; exact hpl
        have hB7 : B ≤ 128 := by rw [HBb.out]; exact Nat.pow_le_pow_right (n := 2) (by omega) (show j % 8 ≤ 7 by omega)
        have HB1 : Hid ((j + 1) % 8 ≠ 0 → 2 * B = 2 ^ ((j + 1) % 8)) := Lib.hid (fun h => by rw [HBb.out, show (j + 1) % 8 = j % 8 + 1 by omega, Nat.pow_succ]; omega)
        have HQ := Lib.hid (show (j + 1 + 7) / 8 = q + 1 by omega)
        have hq2 : q ≤ 160000 := by omega
        have HG : (Word.packTo l j)[q]? = some (UInt8.ofNat (Word.part l j)) := by rw [← hq, List.getElem?_eq_getElem (by rw [Word.packTo_length]; omega), ← Word.packTo_last]; simp [Word.packTo]
        rw [hq] at HS
        rw [HM.out] at hown
        obtain ⟨g, c3, hA⟩ := ownsRow_succ hown
        cases hA
        have hci := hown.cellAt q (by omega)
        have hfi := hown.frozenAt q
        have hbg := (hown.lt g rfl).1
        rw [List.getElem?_map, HG, Option.map_some] at hci
        unfold u8v at hci
        rw [UInt8.toNat_ofNat', Nat.mod_eq_of_lt (by omega)] at hci
        obtain ⟨x, hx⟩ : ∃ x, Word.part l j = x := ⟨_, rfl⟩
        rw [hx] at hci hBp HS
        clear h8 hpl hq hx HG
        cases hbit : l[j] with
        | false =>
          rw [hbit] at hc1
          have HN1 := HN hbit
          go_wp2
          exact ⟨⟨j + 1, 2 * B, q + 1, _, _, by omega, by omega, HB1, Lib.hid HQ.out.symm, by simp, by simp, rfl, by rw [HN1.out]; exact hown, hB⟩, by simp [intOf]; omega⟩
        | true =>
          rw [hbit] at hc1
          go_wp2
          have hst := (hown.stored q (.int .u8 ((x : Int) + B))).1
          have hS := HS.out
          rw [← HBb.out, hbit, show true.toNat = 1 from rfl, Nat.mul_one] at hS
          refine ⟨⟨j + 1, 2 * B, q + 1, _, _, by omega, by omega, HB1, Lib.hid HQ.out.symm, by simp, by simp, rfl, ?_, hB.setCell (p := ⟨g, q, none⟩) hbg _⟩, by simp [intOf]; omega⟩
          rw [hS, List.map_set]
          unfold u8v at hst ⊢
          rw [UInt8.toNat_ofNat', Nat.mod_eq_of_lt (by omega), Int.natCast_add]
          exact hst
    · obtain rfl : j = l.length := by omega
      rw [List.take_length] at hown
      obtain rfl : K = (l.length + 7) / 8 := HK.out
      go_wp2
      go_ret
      obtain ⟨h1, h2, h3, h4⟩ := own_at hown
      exact ⟨A', c', rfl, h1, h2, h4, hB⟩
end Go.Proofs.Ytglejgfmdgjijaa
