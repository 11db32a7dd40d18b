/-
  The document's Bytes and Words.
-/
import Derived.Test.YtglejgfmdgjijaaWords
import Derived.Deep.RegionLaw
namespace Go.Proofs.Ytglejgfmdgjijaa
open Go.RowKit

set_option maxRecDepth 100000 in
set_option maxHeartbeats 400000 in
theorem rbytes_any (A : Option Addr) (n c : Nat) (l : List UInt16) (hn : l.length = n) (hm : n ≤ 20000) (w : World) (hb : Lies u16v w A l) :
    Calls Try.prog 15 #[.slice A n c] w fun e w' => ∃ A' c', e = .returned (.slice A' (2 * n) c') ∧ 2 * n ≤ c' ∧ c' ≤ maxLen ∧ Lies u8v w' A' (Word.bytes l) ∧ Below w.heap.size w w' := by
  subst hn
  go_enter Try.func15, Try.ntmps15
  go_wp2
  go_loopw [3, 4] (fun out i wr => ∃ (j : Nat) (A : Option Addr) (c : Nat), j ≤ l.length ∧ i = .int .i64 j ∧ out = .slice A (2 * j) c ∧ wr.ownsRow w.heap.size 5 1 (.slice A (2 * j) c) (2 * j) ((Word.bytes (l.take j)).map u8v) ∧ Below w.heap.size w wr) (fun _ i _ => l.length - (intOf i).toNat)
  case atStart => exact ⟨0, _, _, Nat.zero_le _, rfl, rfl, World.ownsRow_lit _ #[] 0 (Nat.le_refl _) (by unfold maxLen; omega) rfl, (Below.refl _ _).alloc (Nat.le_refl _) _⟩
  case round =>
    obtain ⟨j, A', c', hj, rfl, rfl, hown, hB⟩ := hrel
    have hz := hB.size
    by_cases hlt : j < l.length
    · obtain ⟨b1, o1, rfl, hc1⟩ := (hb.below hB (Nat.le_refl _)) j hlt
      have HS := Lib.hid (show Word.bytes (l.take (j + 1)) = Word.bytes (l.take j) ++ Word.two l[j] by rw [List.take_succ_eq_append_getElem hlt, Word.bytes_snoc])
      unfold u16v at hc1
      generalize l[j] = x at hc1 HS
      have hr := rput_any x
      unfold u16v at hr
      have HT := Lib.hid (two_map x)
      go_wp2_with (first
        | (go_at_call 20; refine (hr _).mono ?_; rintro e w1 ⟨rfl, hbe1⟩; rw [twov_eq]; have hown1 := own_below hown hbe1; have hz1 := hbe1.size)
        | (at_builtin; go_must (refine wpList_append_lies kit8 one8 _ rfl (.tmp 18) (.tmp 23) rfl w.heap.size _ (2 * j) (Word.bytes (l.take j)) rfl ((hown1.alloc _).alloc _) (some ⟨w1.heap.size + 1, 0, none⟩) 2 2 (Word.two x) rfl rfl (by have := lies_new (f := u8v) (w1.alloc (.cells #[.int .u8 ((x.toNat : Int) / 256), .int .u8 ((x.toNat : Int) % 256)] 39)) #[.int .u8 ((x.toNat : Int) / 256), .int .u8 ((x.toNat : Int) % 256)] 5 (Word.two x) (by rw [HT.out]); rw [World.size_alloc] at this; exact this) (by omega) (by unfold maxLen; omega) (by simp; omega) ?_; intro A2 c2 w2 hown2 hg2 hb2)))
      go_roundw
      case rel =>
        refine ⟨j + 1, A2, c2, by omega, by go_num, rfl, ?_, ?_⟩
        · rw [HS.out]; exact hown2
        · exact hB.trans (((hbe1.mono hz).trans (((Below.refl _ w1).alloc (by omega) _).alloc (by simp; omega) _)).trans hb2)
      case measure => simp [intOf]; omega
    · obtain rfl : j = l.length := by omega
      rw [List.take_length] at hown
      go_wp2
      go_ret
      obtain ⟨h1, h2, h3, h4⟩ := own_at hown
      exact ⟨A', c', rfl, h1, h2, h4, hB⟩

theorem Word.range_succ_map {β : Type} (g : Nat → β) (k : Nat) : (List.range (k + 1)).map g = (List.range k).map g ++ [g k] := by rw [List.range_succ, List.map_append, List.map_cons, List.map_nil]

set_option maxRecDepth 100000 in
set_option maxHeartbeats 400000 in
theorem rwords_even (A : Option Addr) (n c : Nat) (l : List UInt8) (hn : l.length = n) (hm : n ≤ 20000) (hev : n % 2 = 0) (w : World) (hb : Lies u8v w A l) :
    Calls Try.prog 8 #[.slice A n c] w (WordsPost w l) := by
  have HW : Hid (Word.isWords l = true) := Lib.hid (by unfold Word.isWords; rw [hn, hev]; rfl)
  have hmx : Try.prog.follows .mixedOrders = true := by kernel_rfl
  have he1 : ((n : Int) % 2 == 1) = false := by rw [beq_eq_false_iff_ne]; omega
  subst hn
  go_enter Try.func8, Try.ntmps8
  go_wp2
  go_loopw [4, 5] (fun out i wr => ∃ (j : Nat) (A : Option Addr) (c : Nat), 2 * j ≤ l.length ∧ (∃ m : Nat, m = 2 * j ∧ i = .int .i64 (m : Int)) ∧ out = .slice A j c ∧ wr.ownsRow w.heap.size 35 1 (.slice A j c) j (((List.range j).map (Word.wordAt l)).map u16v) ∧ Below w.heap.size w wr) (fun _ i _ => l.length - (intOf i).toNat)
  case atStart => exact ⟨0, none, 0, Nat.zero_le _, ⟨0, rfl, rfl⟩, rfl, World.ownsRow_nil _ _ _ _, Below.refl _ _⟩
  case round =>
    obtain ⟨j, A', c', hj, ⟨m, hm2, rfl⟩, rfl, hown, hB⟩ := hrel
    have hz := hB.size
    by_cases hlt : 2 * j < l.length
    · have hL := hb.below hB (Nat.le_refl _)
      obtain ⟨b1, o1, rfl, -⟩ := hL (2 * j) hlt
      have hca : wr.cell? ⟨b1, o1 + m, none⟩ = some (u8v (l[2 * j])) := by rw [hm2]; exact hL.row (2 * j) hlt
      have hcb : wr.cell? ⟨b1, o1 + (m + 1), none⟩ = some (u8v (l[2 * j + 1]'(by omega))) := by rw [hm2]; exact hL.row (2 * j + 1) (by omega)
      have hm1 : m + 1 < l.length := by omega
      have hmw : IntKind.i64.wrap ((m : Int) + 1) = ((m + 1 : Nat) : Int) := by rw [IntKind.wrap_i64]; omega
      have HV : Hid (Word.wordAt l j = Word.word (l[2 * j]) (l[2 * j + 1]'(by omega))) := Lib.hid (by unfold Word.wordAt; rw [List.getD_eq_getElem?_getD, List.getElem?_eq_getElem hlt, List.getD_eq_getElem?_getD, List.getElem?_eq_getElem (by omega)]; rfl)
      have HS := Lib.hid (Word.range_succ_map (Word.wordAt l) j)
      unfold u8v at hca hcb
      have hx := (l[2 * j]).toNat_lt
      have hy := (l[2 * j + 1]'(by omega)).toNat_lt
      generalize l[2 * j] = x at hca HV hx
      generalize l[2 * j + 1] = y at hcb HV hy
      rw [HV.out] at HS
      have HN : Hid ([Value.int .u16 (256 * (x.toNat : Int) + y.toNat)] = [Word.word x y].map u16v) := Lib.hid (by
        unfold Word.word
        simp only [List.map_cons, List.map_nil, u16v, UInt16.toNat_ofNat']
        congr 2
        omega)
      have hlt2 : (m : Int) + 1 < l.length := by omega
      have hm0 : 0 ≤ (m : Int) + 1 := by omega
      have hj5 : j ≤ 20000 := by omega
      have hdl : 2 * (j + 1) ≤ l.length := by omega
      have hu1 : IntKind.u16.wrap (x.toNat : Int) = x.toNat := IntWalk.u16_in _ (by omega)
      have hu2 : IntKind.u16.wrap (256 * (x.toNat : Int)) = 256 * (x.toNat : Int) := IntWalk.u16_in _ (by omega)
      have hu3 : IntKind.u16.wrap (y.toNat : Int) = y.toNat := IntWalk.u16_in _ (by omega)
      have hu4 : IntKind.u16.wrap (256 * (x.toNat : Int) + y.toNat) = 256 * (x.toNat : Int) + y.toNat := IntWalk.u16_in _ (by omega)
      have hlt3 : m < l.length := by omega
      have HM := Lib.hid hm2
      have HJ := Lib.hid hj
      have HLT := Lib.hid hlt
      clear hm2 hj hlt
      have hownd : World.ownsRow wr.drew w.heap.size 35 1 (.slice A' j c') j (((List.range j).map (Word.wordAt l)).map u16v) := hown
      go_wp2
      go_region_law ((refine step_append_own kit16 one16 _ (by rfl) (.tmp 17) (.tmp 31) (by rfl) w.heap.size _ j ((List.range j).map (Word.wordAt l)) (by rfl) (hownd.alloc _) (some ⟨wr.heap.size, 0, none⟩) 1 1 [Word.word x y] (by rfl) rfl (lies_new wr.drew #[.int .u16 (256 * (x.toNat : Int) + y.toNat)] 35 [Word.word x y] HN.out) (by omega) (by unfold maxLen; omega) (by simp; omega) ?_; intro A2 c2 w2 hown2 hg2 hb2))
      all_goals go_wp2
      all_goals have hm2 := HM.out
      all_goals refine ⟨⟨j + 1, A2, c2, hdl, ⟨m + 2, by omega, by simp⟩, rfl, by rw [HS.out]; exact hown2, hB.trans (((show Below w.heap.size wr wr.drew from drewN_below (Below.refl _ wr) 1).trans ((Below.refl _ _).alloc (by simp; omega) _)).trans hb2)⟩, by simp [intOf]; omega⟩
    · have hend : ¬ ((m : Int) + 1 < l.length) := by omega
      have hmb : m ≤ 20000 := by omega
      clear hm2
      obtain rfl : j = l.length / 2 := by omega
      go_wp2
      go_ret2
      obtain ⟨h1, h2, h3, h4⟩ := own_at hown
      exact WordsPost.some _ _ _ _ _ _ HW.out (Word.words_length l) h1 h2 h4 hB

set_option maxRecDepth 100000 in
set_option maxHeartbeats 400000 in
theorem rwords_any (A : Option Addr) (n c : Nat) (l : List UInt8) (hn : l.length = n) (hm : n ≤ 20000) (w : World) (hb : Lies u8v w A l) :
    Calls Try.prog 8 #[.slice A n c] w (WordsPost w l) := by
  by_cases h2 : n % 2 = 0
  · exact rwords_even A n c l hn hm h2 w hb
  · have HI : Hid (Word.isWords l = false) := Lib.hid (by unfold Word.isWords; rw [hn, beq_eq_false_iff_ne]; exact h2)
    have h3 : ((n : Int) % 2 == 1) = true := by rw [beq_iff_eq]; omega
    clear hn h2
    go_enter Try.func8, Try.ntmps8
    go_wp2
    go_ret2
    exact WordsPost.none _ _ _ HI.out (Below.refl _ _)
end Go.Proofs.Ytglejgfmdgjijaa
