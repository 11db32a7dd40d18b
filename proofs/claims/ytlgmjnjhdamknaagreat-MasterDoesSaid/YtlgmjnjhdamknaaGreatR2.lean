
/- A part of the proof of the law MasterDoes. -/
import Derived.Test.YtlgmjnjhdamknaaGreatMem
import Derived.Test.YtlgmjnjhdamknaaGreatRow
import Derived.Test.YtlgmjnjhdamknaaGreatWords
import Derived.Test.YtlgmjnjhdamknaaGreatWm
import Derived.Laws.BitsAllLaws
import Derived.Deep.RegionLaw
import Derived.RangeFuncBox
import Derived.Laws.Cover3
namespace Go.Proofs.YtlgmjnjhdamknaaGreat
open Go.RowKit

theorem rbytes_own (A : Option Addr) (n c : Nat) (l : List UInt16) (hn : l.length = n) (hm : n ≤ 20000) (w : World) (hb : Lies u16v w A l) :
    Calls Tryz.prog 102 #[.slice A n c] w fun e w' => ∃ A' c', e = .returned (.slice A' (2 * n) c') ∧ w'.ownsRow w.heap.size 5 1 (.slice A' (2 * n) c') (2 * n) ((Word.bytes l).map u8v) ∧ Below w.heap.size w w' := by
  subst hn
  go_enter Tryz.func102, Tryz.ntmps102
  go_wp2
  go_loopw [3, 4] (fun out i wr => ∃ (j : Nat) (A : Option Addr) (c : Nat), j ≤ l.length ∧ i = .int .i64 j ∧ out = .slice A (2 * j) c ∧ wr.ownsRow w.heap.size 5 1 (.slice A (2 * j) c) (2 * j) ((Word.bytes (l.take j)).map u8v) ∧ Below w.heap.size w wr) (fun _ i _ => l.length - (intOf i).toNat)
  case atStart => exact ⟨0, _, _, Nat.zero_le _, rfl, rfl, World.ownsRow_lit _ #[] 0 (zq _) (by unfold maxLen; omega) rfl, (Below.refl _ _).alloc (zq _) _⟩
  case round =>
    obtain ⟨j, A', c', hj, rfl, rfl, hown, hB⟩ := hrel
    have hz := hB.size
    by_cases hlt : j < l.length
    · obtain ⟨b1, o1, rfl, hc1⟩ := (hb.below hB (zq _)) j hlt
      have HS := qh (show Word.bytes (l.take (j + 1)) = Word.bytes (l.take j) ++ Word.two l[j] by rw [List.take_succ_eq_append_getElem hlt, Word.bytes_snoc])
      unfold u16v at hc1
      generalize l[j] = x at hc1 HS
      have hr := rput_any x
      unfold u16v at hr
      have HT := qh (two_map x)
      go_wp2_with (first
        | (go_at_call 145; refine (hr _).mono ?_; rintro e w1 ⟨rfl, hbe1⟩; rw [twov_eq]; have hown1 := own_below hown hbe1; have hz1 := hbe1.size)
        | (at_builtin; go_must (refine wpList_append_lies kit8 one8 _ rfl (.tmp 18) (.tmp 23) rfl w.heap.size _ (2 * j) (Word.bytes (l.take j)) rfl ((hown1.alloc _).alloc _) (some ⟨w1.heap.size + 1, 0, none⟩) 2 2 (Word.two x) rfl rfl (by have := lies_new (f := u8v) (w1.alloc (.cells #[.int .u8 ((x.toNat : Int) / 256), .int .u8 ((x.toNat : Int) % 256)] 184)) #[.int .u8 ((x.toNat : Int) / 256), .int .u8 ((x.toNat : Int) % 256)] 5 (Word.two x) (by rw [HT.out]); rw [World.size_alloc] at this; exact this) (by omega) (by unfold maxLen; omega) (by simp; omega) ?_; intro A2 c2 w2 hown2 hg2 hb2)))
      go_roundw
      case rel =>
        refine ⟨j + 1, A2, c2, by omega, by go_num, rfl, ?_, ?_⟩
        · rw [HS.out]; exact hown2
        · exact hB.trans (((hbe1.mono hz).trans (((Below.refl _ w1).alloc (by omega) _).alloc (by simp; omega) _)).trans hb2)
      case measure => simp [intOf]; omega
    · obtain rfl : j = l.length := by omega
      rw [List.take_length] at hown
      go_wp2
      go_ret
      exact ⟨A', c', rfl, hown, hB⟩
theorem Word.range_succ_map {β : Type} (g : Nat → β) (k : Nat) : (List.range (k + 1)).map g = (List.range k).map g ++ [g k] := by rw [List.range_succ, List.map_append, List.map_cons, List.map_nil]
set_option maxRecDepth 100000 in
set_option maxHeartbeats 400000 in
theorem rwords_even (A : Option Addr) (n c : Nat) (l : List UInt8) (hn : l.length = n) (hm : n ≤ 20000) (hev : n % 2 = 0) (w : World) (hb : Lies u8v w A l) :
    Calls Tryz.prog 105 #[.slice A n c] w (WordsPost w l) := by
  have HW : Hid (Word.isWords l = true) := qh (by unfold Word.isWords; rw [hn, hev]; rfl)
  have hmx : Tryz.prog.follows .mixedOrders = true := by kernel_rfl
  have he1 : ((n : Int) % 2 == 1) = false := by rw [beq_eq_false_iff_ne]; omega
  subst hn
  go_enter Tryz.func105, Tryz.ntmps105
  go_wp2
  go_loopw [4, 5] (fun out i wr => ∃ (j : Nat) (A : Option Addr) (c : Nat), 2 * j ≤ l.length ∧ (∃ m : Nat, m = 2 * j ∧ i = .int .i64 (m : Int)) ∧ out = .slice A j c ∧ wr.ownsRow w.heap.size 38 1 (.slice A j c) j (((List.range j).map (Word.wordAt l)).map u16v) ∧ Below w.heap.size w wr) (fun _ i _ => l.length - (intOf i).toNat)
  case atStart => exact ⟨0, none, 0, Nat.zero_le _, ⟨0, rfl, rfl⟩, rfl, World.ownsRow_nil _ _ _ _, Below.refl _ _⟩
  case round =>
    obtain ⟨j, A', c', hj, ⟨m, hm2, rfl⟩, rfl, hown, hB⟩ := hrel
    have hz := hB.size
    by_cases hlt : 2 * j < l.length
    · have hL := hb.below hB (zq _)
      obtain ⟨b1, o1, rfl, -⟩ := hL (2 * j) hlt
      have hca : wr.cell? ⟨b1, o1 + m, none⟩ = some (u8v (l[2 * j])) := by rw [hm2]; exact hL.row (2 * j) hlt
      have hcb : wr.cell? ⟨b1, o1 + (m + 1), none⟩ = some (u8v (l[2 * j + 1]'(by omega))) := by rw [hm2]; exact hL.row (2 * j + 1) (by omega)
      have hm1 : m + 1 < l.length := by omega
      have hmw : IntKind.i64.wrap ((m : Int) + 1) = ((m + 1 : Nat) : Int) := by rw [IntKind.wrap_i64]; omega
      have HV : Hid (Word.wordAt l j = Word.word (l[2 * j]) (l[2 * j + 1]'(by omega))) := qh (by unfold Word.wordAt; rw [List.getD_eq_getElem?_getD, List.getElem?_eq_getElem hlt, List.getD_eq_getElem?_getD, List.getElem?_eq_getElem (by omega)]; rfl)
      have HS := qh (Word.range_succ_map (Word.wordAt l) j)
      unfold u8v at hca hcb
      have hx := (l[2 * j]).toNat_lt
      have hy := (l[2 * j + 1]'(by omega)).toNat_lt
      generalize l[2 * j] = x at hca HV hx
      generalize l[2 * j + 1] = y at hcb HV hy
      rw [HV.out] at HS
      have HN : Hid ([Value.int .u16 (256 * (x.toNat : Int) + y.toNat)] = [Word.word x y].map u16v) := qh (by
        unfold Word.word
        simp only [List.map_cons, List.map_nil, u16v, UInt16.toNat_ofNat']
        congr 2
        omega)
      have hlt2 : (m : Int) + 1 < l.length := by omega
      have hm0 : 0 ≤ (m : Int) + 1 := by omega
      have hj5 : j ≤ 20000 := by omega
      have hdl : 2 * (j + 1) ≤ l.length := by omega
      have hu1 : IntKind.u16.wrap (x.toNat : Int) = x.toNat := IntWalk.u16_in _ (by omega)
      have hu2 : IntKind.u16.wrap (256 * (x.toNat : Int)) = 256 * (x.toNat : Int) := IntWalk.u16_in _ (by omega)
      have hu3 : IntKind.u16.wrap (y.toNat : Int) = y.toNat := IntWalk.u16_in _ (by omega)
      have hu4 : IntKind.u16.wrap (256 * (x.toNat : Int) + y.toNat) = 256 * (x.toNat : Int) + y.toNat := IntWalk.u16_in _ (by omega)
      have hlt3 : m < l.length := by omega
      have HM := qh hm2
      have HJ := qh hj
      have HLT := qh hlt
      clear hm2 hj hlt
      have hownd : World.ownsRow wr.drew w.heap.size 38 1 (.slice A' j c') j (((List.range j).map (Word.wordAt l)).map u16v) := hown
      go_wp2
      go_region_law ((refine step_append_own kit16 one16 _ (by rfl) (.tmp 17) (.tmp 31) (by rfl) w.heap.size _ j ((List.range j).map (Word.wordAt l)) (by rfl) (hownd.alloc _) (some ⟨wr.heap.size, 0, none⟩) 1 1 [Word.word x y] (by rfl) rfl (lies_new wr.drew #[.int .u16 (256 * (x.toNat : Int) + y.toNat)] 38 [Word.word x y] HN.out) (by omega) (by unfold maxLen; omega) (by simp; omega) ?_; intro A2 c2 w2 hown2 hg2 hb2))
      all_goals go_wp2
      all_goals have hm2 := HM.out
      all_goals refine ⟨⟨j + 1, A2, c2, hdl, ⟨m + 2, by omega, by simp⟩, rfl, by rw [HS.out]; exact hown2, hB.trans (((show Below w.heap.size wr wr.drew from drewN_below (Below.refl _ wr) 1).trans ((Below.refl _ _).alloc (by simp; omega) _)).trans hb2)⟩, by simp [intOf]; omega⟩
    · have hend : ¬ ((m : Int) + 1 < l.length) := by omega
      have hmb : m ≤ 20000 := by omega
      clear hm2
      obtain rfl : j = l.length / 2 := by omega
      go_wp2
      go_ret2
      obtain ⟨h1, h2, h3, h4⟩ := own_at hown
      exact WordsPost.some _ _ _ _ _ _ HW.out (Word.words_length l) h1 h2 h4 hB (fun b o s e _ => by subst e; exact (hown.lt b rfl).1)
set_option maxRecDepth 100000 in
set_option maxHeartbeats 400000 in
theorem rwords_any (A : Option Addr) (n c : Nat) (l : List UInt8) (hn : l.length = n) (hm : n ≤ 20000) (w : World) (hb : Lies u8v w A l) :
    Calls Tryz.prog 105 #[.slice A n c] w (WordsPost w l) := by
  by_cases h2 : n % 2 = 0
  · exact rwords_even A n c l hn hm h2 w hb
  · have HI : Hid (Word.isWords l = false) := qh (by unfold Word.isWords; rw [hn, beq_eq_false_iff_ne]; exact h2)
    have h3 : ((n : Int) % 2 == 1) = true := by rw [beq_iff_eq]; omega
    clear hn h2
    go_enter Tryz.func105, Tryz.ntmps105
    go_wp2
    go_ret2
    exact WordsPost.none _ _ _ HI.out (Below.refl _ _)
namespace Word
def packTo (l : List Bool) (j : Nat) : List UInt8 := (List.range (j / 8 + 1)).map (packAt (l.take j))
def part (l : List Bool) (j : Nat) : Nat := val ((l.drop (8 * (j / 8))).take (j % 8))
theorem packAt_take (l : List Bool) (j k : Nat) : packAt (l.take j) k = UInt8.ofNat (val ((l.drop (8 * k)).take (min 8 (j - 8 * k)))) := by
  unfold packAt
  rw [List.drop_take, List.take_take]
theorem part_lt (l : List Bool) (j : Nat) (hj : j ≤ l.length) : part l j < 2 ^ (j % 8) := by
  have := val_lt ((l.drop (8 * (j / 8))).take (j % 8))
  rw [List.length_take, List.length_drop, Nat.min_eq_left (by omega)] at this
  exact this
theorem packTo_last (l : List Bool) (j : Nat) : packAt (l.take j) (j / 8) = UInt8.ofNat (part l j) := by
  rw [packAt_take, show min 8 (j - 8 * (j / 8)) = j % 8 by omega]
  rfl
theorem pack_nil : pack [] = [] := rfl
theorem packTo_length (l : List Bool) (j : Nat) : (packTo l j).length = j / 8 + 1 := by simp [packTo]
theorem packTo_zero (l : List Bool) (j : Nat) (hj : j ≤ l.length) (h : j % 8 = 0) : pack (l.take j) ++ [0] = packTo l j := by
  unfold pack packTo
  rw [List.length_take, Nat.min_eq_left hj, show (j + 7) / 8 = j / 8 by omega, List.range_succ, List.map_append, List.map_cons, List.map_nil, packTo_last, part, h, List.take_zero]
  rfl
theorem packTo_more (l : List Bool) (j : Nat) (hj : j ≤ l.length) (h : j % 8 ≠ 0) : pack (l.take j) = packTo l j := by
  unfold pack packTo
  rw [List.length_take, Nat.min_eq_left hj, show (j + 7) / 8 = j / 8 + 1 by omega]
theorem part_val (l : List Bool) (j : Nat) (hj : j < l.length) : val ((l.drop (8 * (j / 8))).take (j % 8 + 1)) = part l j + 2 ^ (j % 8) * l[j].toNat := by
  have h1 : j % 8 < (l.drop (8 * (j / 8))).length := by rw [List.length_drop]; omega
  rw [List.take_succ_eq_append_getElem h1, val_snoc, List.length_take, Nat.min_eq_left (by omega), List.getElem_drop]
  unfold part
  congr 4
  omega
theorem pack_step (l : List Bool) (j : Nat) (hj : j < l.length) : pack (l.take (j + 1)) = (packTo l j).set (j / 8) (UInt8.ofNat (part l j + 2 ^ (j % 8) * l[j].toNat)) := by
  have hlen : (pack (l.take (j + 1))).length = j / 8 + 1 := by rw [pack_length, List.length_take]; omega
  apply List.ext_getElem
  · rw [List.length_set, packTo_length, hlen]
  · intro k h1 h2
    rw [hlen] at h1
    have e1 : (pack (l.take (j + 1)))[k]'(by rw [hlen]; exact h1) = packAt (l.take (j + 1)) k := by simp [pack]
    rw [e1, packAt_take]
    by_cases hk : k = j / 8
    · subst hk
      rw [List.getElem_set_self, show min 8 (j + 1 - 8 * (j / 8)) = j % 8 + 1 by omega, part_val l j hj]
    · rw [List.getElem_set_ne (by omega)]
      simp only [packTo, List.getElem_map, List.getElem_range]
      rw [packAt_take, show min 8 (j + 1 - 8 * k) = 8 by omega, show min 8 (j - 8 * k) = 8 by omega]
theorem pack_skip (l : List Bool) (j : Nat) (hj : j < l.length) (h : l[j] = false) : pack (l.take (j + 1)) = packTo l j := by
  rw [pack_step l j hj, h, show false.toNat = 0 from rfl, Nat.mul_zero, Nat.add_zero, ← packTo_last]
  apply List.ext_getElem
  · rw [List.length_set]
  · intro k h1 h2
    by_cases hk : k = j / 8
    · subst hk
      rw [List.getElem_set_self]
      simp [packTo]
    · rw [List.getElem_set_ne (by omega)]
end Word

set_option maxRecDepth 100000 in
set_option maxHeartbeats 1000000 in
theorem rpack_own (A : Option Addr) (n c : Nat) (l : List Bool) (hn : l.length = n) (hm : n ≤ 160000) (w : World) (hb : Lies bitv w A l) :
    Calls Tryz.prog 103 #[.slice A n c] w fun e w' => ∃ A' c', e = .returned (.slice A' ((n + 7) / 8) c') ∧ w'.ownsRow w.heap.size 5 1 (.slice A' ((n + 7) / 8) c') ((n + 7) / 8) ((Word.pack l).map u8v) ∧ Below w.heap.size w w' := by
  subst hn
  go_enter Tryz.func103, Tryz.ntmps103
  go_wp2
  go_loopw [3, 4, 5] (fun out bit i wr => ∃ (j B K : Nat) (A : Option Addr) (c : Nat), j ≤ l.length ∧ B ≤ 256 ∧ Hid (j % 8 ≠ 0 → B = 2 ^ (j % 8)) ∧ Hid (K = (j + 7) / 8) ∧ i = .int .i64 j ∧ bit = .int .i64 B ∧ out = .slice A K c ∧ wr.ownsRow w.heap.size 5 1 (.slice A K c) K ((Word.pack (l.take j)).map u8v) ∧ Below w.heap.size w wr) (fun _ _ i _ => l.length - (intOf i).toNat)
  case atStart => exact ⟨0, 1, 0, _, _, Nat.zero_le _, by omega, qh (fun h => absurd rfl h), qh rfl, rfl, rfl, rfl, by rw [List.take_zero, Word.pack_nil]; exact World.ownsRow_lit _ #[] 0 (zq _) (by unfold maxLen; omega) rfl, (Below.refl _ _).alloc (zq _) _⟩
  case round =>
    obtain ⟨j, B, K, A', c', hj, hB256, HBe, HK, rfl, rfl, rfl, hown, hB⟩ := hrel
    have hz := hB.size
    by_cases hlt : j < l.length
    · obtain ⟨b1, o1, rfl, hc1⟩ := (hb.below hB (zq _)) j hlt
      have HS := qh (Word.pack_step l j hlt)
      have HN := fun h => qh (Word.pack_skip l j hlt h)
      have hpl := Word.part_lt l j hj
      unfold bitv at hc1
      by_cases h8 : j % 8 = 0
      · have h8' : ((j : Int) % 8 == 0) = true := by rw [beq_iff_eq]; omega
        obtain rfl : K = j / 8 := by have := HK.out; omega
        have HZ := qh (Word.packTo_zero l j hj h8)
        have HP0 : Hid (Word.part l j = 0) := qh (by rw [h8] at hpl; omega)
        have HM8 := qh h8
        have hq : j / 8 ≤ 160000 := by omega
        have HQ := qh (show (j + 1 + 7) / 8 = j / 8 + 1 by omega)
        have HL0 := qh (Word.packTo_length l j)
        have HB1 : Hid ((j + 1) % 8 ≠ 0 → 2 = 2 ^ ((j + 1) % 8)) := qh (fun _ => by rw [show (j + 1) % 8 = 1 by omega])
        have HG : (Word.packTo l j)[j / 8]? = some (UInt8.ofNat 0) := by rw [List.getElem?_eq_getElem (by rw [Word.packTo_length]; omega), ← HP0.out, ← Word.packTo_last]; simp [Word.packTo]
        clear h8 hpl
        cases hbit : l[j] with
        | false =>
          rw [hbit] at hc1
          have HN1 := HN hbit
          generalize j / 8 = q at *
          go_wp2_with (at_builtin; go_must (refine wpList_append_lies kit8 one8 _ rfl (.tmp 16) (.tmp 17) rfl w.heap.size _ q (Word.pack (l.take j)) rfl (hown.alloc _) (some ⟨wr.heap.size, 0, none⟩) 1 1 [0] rfl rfl (lies_new (f := u8v) wr #[.int .u8 0] 5 [0] rfl) (by omega) (by unfold maxLen; omega) (by simp; omega) ?_; intro A2 c2 w2 hown2 hg2 hb2; rw [HZ.out] at hown2; obtain ⟨g, c3, hA⟩ := ownsRow_succ hown2; cases hA; have hB2 := (hB.alloc hz (.cells #[.int .u8 0] 5)).trans hb2; have hc2 := (hb.below hB2 (zq _)).row j hlt; unfold bitv at hc2; rw [hbit] at hc2; have hci := hown2.cellAt q (by omega); have hfi := hown2.frozenAt q; have hbg := (hown2.lt g rfl).1; rw [List.getElem?_map, HG, Option.map_some] at hci))
          exact ⟨⟨j + 1, 2, q + 1, _, _, by omega, by omega, HB1, qh HQ.out.symm, by simp, rfl, rfl, by rw [HN1.out]; exact hown2, hB2⟩, by simp [intOf]; omega⟩
        | true =>
          rw [hbit] at hc1
          generalize j / 8 = q at *
          go_wp2_with (at_builtin; go_must (refine wpList_append_lies kit8 one8 _ rfl (.tmp 16) (.tmp 17) rfl w.heap.size _ q (Word.pack (l.take j)) rfl (hown.alloc _) (some ⟨wr.heap.size, 0, none⟩) 1 1 [0] rfl rfl (lies_new (f := u8v) wr #[.int .u8 0] 5 [0] rfl) (by omega) (by unfold maxLen; omega) (by simp; omega) ?_; intro A2 c2 w2 hown2 hg2 hb2; rw [HZ.out] at hown2; obtain ⟨g, c3, hA⟩ := ownsRow_succ hown2; cases hA; have hB2 := (hB.alloc hz (.cells #[.int .u8 0] 5)).trans hb2; have hc2 := (hb.below hB2 (zq _)).row j hlt; unfold bitv at hc2; rw [hbit] at hc2; have hci := hown2.cellAt q (by omega); have hfi := hown2.frozenAt q; have hbg := (hown2.lt g rfl).1; rw [List.getElem?_map, HG, Option.map_some] at hci))
          have hst := (hown2.stored q (.int .u8 1)).1
          have hS := HS.out
          rw [HP0.out, HM8.out, hbit] at hS
          refine ⟨⟨j + 1, 2, q + 1, _, _, by omega, by omega, HB1, qh HQ.out.symm, by simp, rfl, rfl, ?_, hB2.setCell (p := ⟨g, q, none⟩) hbg _⟩, by simp [intOf]; omega⟩
          rw [hS, List.map_set]
          exact hst
      · have h8' : ((j : Int) % 8 == 0) = false := by rw [beq_eq_false_iff_ne]; omega
        obtain ⟨q, hq⟩ : ∃ q, j / 8 = q := ⟨_, rfl⟩
        obtain rfl : K = q + 1 := by have := HK.out; omega
        have HM := qh (Word.packTo_more l j hj h8)
        have HBb := qh (HBe.out h8)
        have hBp : Word.part l j < B := by rw [HBb.out]; exact hpl
        have hB7 : B ≤ 128 := by rw [HBb.out]; exact Nat.pow_le_pow_right (n := 2) (by omega) (show j % 8 ≤ 7 by omega)
        have HB1 : Hid ((j + 1) % 8 ≠ 0 → 2 * B = 2 ^ ((j + 1) % 8)) := qh (fun h => by rw [HBb.out, show (j + 1) % 8 = j % 8 + 1 by omega, Nat.pow_succ]; omega)
        have HQ := qh (show (j + 1 + 7) / 8 = q + 1 by omega)
        have hq2 : q ≤ 160000 := by omega
        have HG : (Word.packTo l j)[q]? = some (UInt8.ofNat (Word.part l j)) := by rw [← hq, List.getElem?_eq_getElem (by rw [Word.packTo_length]; omega), ← Word.packTo_last]; simp [Word.packTo]
        rw [hq] at HS
        rw [HM.out] at hown
        obtain ⟨g, c3, hA⟩ := ownsRow_succ hown
        cases hA
        have hci := hown.cellAt q (by omega)
        have hfi := hown.frozenAt q
        have hbg := (hown.lt g rfl).1
        rw [List.getElem?_map, HG, Option.map_some] at hci
        unfold u8v at hci
        rw [UInt8.toNat_ofNat', Nat.mod_eq_of_lt (by omega)] at hci
        obtain ⟨x, hx⟩ : ∃ x, Word.part l j = x := ⟨_, rfl⟩
        rw [hx] at hci hBp HS
        clear h8 hpl hq hx HG
        cases hbit : l[j] with
        | false =>
          rw [hbit] at hc1
          have HN1 := HN hbit
          go_wp2
          exact ⟨⟨j + 1, 2 * B, q + 1, _, _, by omega, by omega, HB1, qh HQ.out.symm, by simp, by simp, rfl, by rw [HN1.out]; exact hown, hB⟩, by simp [intOf]; omega⟩
        | true =>
          rw [hbit] at hc1
          go_wp2
          have hst := (hown.stored q (.int .u8 ((x : Int) + B))).1
          have hS := HS.out
          rw [← HBb.out, hbit, show true.toNat = 1 from rfl, Nat.mul_one] at hS
          refine ⟨⟨j + 1, 2 * B, q + 1, _, _, by omega, by omega, HB1, qh HQ.out.symm, by simp, by simp, rfl, ?_, hB.setCell (p := ⟨g, q, none⟩) hbg _⟩, by simp [intOf]; omega⟩
          rw [hS, List.map_set]
          unfold u8v at hst ⊢
          rw [UInt8.toNat_ofNat', Nat.mod_eq_of_lt (by omega), Int.natCast_add]
          exact hst
    · obtain rfl : j = l.length := by omega
      rw [List.take_length] at hown
      obtain rfl : K = (l.length + 7) / 8 := HK.out
      go_wp2
      go_ret
      exact ⟨A', c', rfl, hown, hB⟩
end Go.Proofs.YtlgmjnjhdamknaaGreat

namespace Go.Proofs.YtlgmjnjhdamknaaGreat
open Go.RowKit

section
variable {P : Program} {t e : TypeId} {z : Value} {by_ : Nat} {α : Type} {f : α → Value}
def Led (w : World) (v v' : Value) : Prop := ∀ g, v'.ownBlock = some g → v.ownBlock = some g ∨ g = w.heap.size
theorem run_append_led (K : EK P t e z by_) (hf : ∀ x, (f x).oneCell' = true) (w : World) (ty : TypeId) (B : Nat) (v : Value) (n : Nat) (xs : List α) (hown : w.ownsRow B e 1 v n (xs.map f))
    (A : Option Addr) (m c : Nat) (ys : List α) (hm : ys.length = m) (hy : Lies f w A ys) (h47 : (n + m) * by_ ≤ 140737488355328) (h48 : n + m ≤ maxLen) (hB : B ≤ w.heap.size) :
    ∃ A' c' w', (Builtin.append_ #[t, t] ty #[v, .slice A m c]).run P w = .ok (.slice A' (n + m) c') w' ∧ w'.ownsRow B e 1 (.slice A' (n + m) c') (n + m) ((xs ++ ys).map f) ∧ w.grownBy w' v.ownBlock ∧ Below B w w' ∧ Led w v (.slice A' (n + m) c') := by
  obtain ⟨i, hi, hz, hs, hb⟩ := info_parts K.hi
  have hbelow : ∀ w', w.grownBy w' v.ownBlock → Below B w w' := fun w' hg => (Below.refl B w).grown hg hB fun k hk => (hown.lt k hk).1
  rcases A with _ | ad
  · obtain rfl : ys = [] := by
      rcases ys with _ | ⟨y, r⟩
      · rfl
      · obtain ⟨_, _, h, _⟩ := hy 0 (by simp)
        cases h
    obtain rfl : m = 0 := by simpa using hm.symm
    obtain ⟨A', c', rfl, hl, _⟩ := own_lies hown
    exact ⟨A', c', w, run_append_nothing K w ty B _ n _ hown c, by simpa using hown, World.grownBy.refl w _, Below.refl _ _, fun g h => .inl h⟩
  · have hnews : ∀ j u, (ys.map f)[j]? = some u → w.cell? (ad.add j) = some u := by
      intro j u hu
      have hj : j < ys.length := by
        rcases Nat.lt_or_ge j ys.length with h | h
        · exact h
        · rw [List.getElem?_map, List.getElem?_eq_none h] at hu; cases hu
      obtain ⟨b, off, h, _⟩ := hy j hj
      injection h with h
      subst h
      exact hy.cells_add j u hu
    obtain ⟨v', w', hrun, h2, h3, _, h5⟩ := run_append_own_at (P := P) w B t ty e i _ 1 by_ K.ht hi hz hs hb K.hz (by omega) v n (xs.map f) hown ad m c (ys.map f) (by rw [List.length_map, hm, Nat.mul_one]) hnews (by intro u hu; obtain ⟨x, _, rfl⟩ := List.mem_map.1 hu; exact hf x)
      h48 h47 hB
    rw [← List.map_append] at h2
    obtain ⟨A', c', rfl, _⟩ := own_lies h2
    refine ⟨A', c', w', hrun, h2, h3, hbelow w' h3, fun g hg => ?_⟩
    rcases h5 with h5 | h5
    · left; rw [← h5]; exact hg
    · right; rw [h5] at hg; exact (Option.some.inj hg).symm

theorem wpList_append_led (K : EK P t e z by_) (hf : ∀ x, (f x).oneCell' = true) (w : World) {ops : Array Oper} {rest : List Oper} {o : Oper} {a : Act} {Q : Exit → Act → World → Prop} (hgd : o.guard = none) (s x : Operand)
    (ho : o.op = .call { callee := .builtin .append, args := #[s, x], argTypes := #[t, t] })
    (B : Nat) (v : Value) (n : Nat) (xs : List α) (hs : a.eval s = v) (hown : w.ownsRow B e 1 v n (xs.map f))
    (A : Option Addr) (m c : Nat) (ys : List α) (hx : a.eval x = .slice A m c) (hm : ys.length = m) (hy : Lies f w A ys) (h47 : (n + m) * by_ ≤ 140737488355328) (h48 : n + m ≤ maxLen) (hB : B ≤ w.heap.size)
    (h : ∀ A' c' w', w'.ownsRow B e 1 (.slice A' (n + m) c') (n + m) ((xs ++ ys).map f) → w.grownBy w' v.ownBlock → Below B w w' → Led w v (.slice A' (n + m) c') → wpList P ops Q rest (a.put o.dst (.slice A' (n + m) c')) w') : wpList P ops Q (o :: rest) a w := by
  obtain ⟨A', c', w', hrun, h2, h3, h4, h5⟩ := run_append_led K hf w o.type B v n xs hown A m c ys hm hy h47 h48 hB
  refine wpList_plain hgd fun _ hK => ?_
  unfold Oper.wp execOp
  simp only [ho, resolve, invoke, builtin, Sem.run_bind, Sem.run_pure, Result.andThen_ok, List.map_toArray, List.map_cons, List.map_nil, hs, hx, hrun]
  exact hK _ _ (h A' c' w' h2 h3 h4 h5)

theorem step_append_led (K : EK P t e z by_) (hf : ∀ x, (f x).oneCell' = true) (w : World) {ops : Array Oper} {o : Oper} {a : Act} {K' : Act → World → Prop} {Q : Exit → Act → World → Prop} {E : Prop} (hgd : o.guard = none) (s x : Operand)
    (ho : o.op = .call { callee := .builtin .append, args := #[s, x], argTypes := #[t, t] })
    (B : Nat) (v : Value) (n : Nat) (xs : List α) (hs : a.eval s = v) (hown : w.ownsRow B e 1 v n (xs.map f))
    (A : Option Addr) (m c : Nat) (ys : List α) (hx : a.eval x = .slice A m c) (hm : ys.length = m) (hy : Lies f w A ys) (h47 : (n + m) * by_ ≤ 140737488355328) (h48 : n + m ≤ maxLen) (hB : B ≤ w.heap.size)
    (h : ∀ A' c' w', w'.ownsRow B e 1 (.slice A' (n + m) c') (n + m) ((xs ++ ys).map f) → w.grownBy w' v.ownBlock → Below B w w' → Led w v (.slice A' (n + m) c') → K' (a.put o.dst (.slice A' (n + m) c')) w') :
    if Region.wanted o (yielded ops a.tmps) = true then Oper.wp P o a w K' Q else E := by
  obtain ⟨A', c', w', hrun, h2, h3, h4, h5⟩ := run_append_led K hf w o.type B v n xs hown A m c ys hm hy h47 h48 hB
  rw [if_pos (by simp [Region.wanted, hgd])]
  unfold Oper.wp execOp
  simp only [ho, resolve, invoke, builtin, Sem.run_bind, Sem.run_pure, Result.andThen_ok, List.map_toArray, List.map_cons, List.map_nil, hs, hx, hrun]
  exact h A' c' w' h2 h3 h4 h5
end

def Off (lo hi : Nat) (v : Value) : Prop := ∀ g, v.ownBlock = some g → g < lo ∨ hi ≤ g
def Ins (lo hi : Nat) (v : Value) : Prop := ∀ g, v.ownBlock = some g → lo ≤ g ∧ g < hi
theorem Led.off {lo hi : Nat} {w : World} {v v' : Value} (h : Led w v v') (ho : Off lo hi v) (hw : hi ≤ w.heap.size) : Off lo hi v' := by
  intro g hg
  rcases h g hg with h1 | h1
  · exact ho g h1
  · right; omega
theorem own_off {w : World} {B e k n : Nat} {v : Value} {xs : List Value} {lo hi : Nat} (h : w.ownsRow B e k v n xs) (hl : w.heap.size ≤ lo) : Off lo hi v := fun g hg => .inl (Nat.lt_of_lt_of_le (h.lt g hg).2 hl)
theorem own_ins {w : World} {B e k n : Nat} {v : Value} {xs : List Value} {hi : Nat} (h : w.ownsRow B e k v n xs) (hh : w.heap.size ≤ hi) : Ins B hi v := fun g hg => ⟨(h.lt g hg).1, Nat.lt_of_lt_of_le (h.lt g hg).2 hh⟩
theorem own_beside {w w' : World} {B e k n : Nat} {v v2 : Value} {xs : List Value} {lo hi : Nat} (h : w.ownsRow B e k v n xs) (hg : w.grownBy w' v2.ownBlock) (hi' : Ins lo hi v) (ho : Off lo hi v2) : w'.ownsRow B e k v n xs := by
  refine h.kept hg ?_
  cases hv : v.ownBlock with
  | none => exact .inl rfl
  | some g =>
    right
    intro e
    have h1 := hi' g hv
    have h2 := ho g (by rw [← e])
    omega
theorem own_src {w : World} {B e n c : Nat} {A : Option Addr} {l : List UInt8} (h : w.ownsRow B e 1 (.slice A n c) n (l.map u8v)) : l.length = n ∧ Lies u8v w A l := ⟨(own_at h).2.2.1, (own_at h).2.2.2⟩
end Go.Proofs.YtlgmjnjhdamknaaGreat
