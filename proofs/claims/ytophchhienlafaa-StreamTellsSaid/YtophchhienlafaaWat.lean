/-
  What the landed mbap's wordAt leaves.
-/
import Derived.Test.YtophchhienlafaaWds
import Derived.Test.YtophchhienlafaaNum
namespace Go.Proofs.Ytophchhienlafaa
open Go.RowKit

theorem Mb.word_toNat (x y : UInt8) : (Word.word x y).toNat = 256 * x.toNat + y.toNat := by
  have := x.toNat_lt
  have := y.toNat_lt
  unfold Word.word
  rw [UInt16.toNat_ofNat']
  omega
theorem Mb.word_zero (x y : UInt8) : (Word.word x y = 0) ↔ x = 0 ∧ y = 0 := by
  rw [← UInt16.toNat_inj, ← UInt8.toNat_inj, ← UInt8.toNat_inj, Mb.word_toNat]
  simp
  omega
theorem lies_two {w : World} {b off : Nat} {l : List UInt8} (h : Lies u8v w (some ⟨b, off, none⟩) l) (j : Nat) (hj : j + 2 ≤ l.length) : Lies u8v w (some ⟨b, off + j, none⟩) [l.getD j 0, l.getD (j + 1) 0] := by
  refine Lies.of_row fun i hi => ?_
  have h1 := h.row (j + i) (by simp at hi; omega)
  rw [Nat.add_assoc, h1]
  rcases i with _ | _ | i
  · simp [List.getD_eq_getElem?_getD, List.getElem?_eq_getElem (show j < l.length by omega)]
  · simp [List.getD_eq_getElem?_getD, List.getElem?_eq_getElem (show j + 1 < l.length by omega)]
  · simp at hi; omega
theorem isWords_two (x y : UInt8) : Word.isWords [x, y] = true := by simp [Word.isWords]
theorem ansWords_two (x y : UInt8) : Word.ansWords [x, y] = [Word.word x y] := by simp [Word.ansWords, Word.isWords, Word.words, Word.wordAt, List.range_succ]

set_option maxRecDepth 100000 in
set_option maxHeartbeats 400000 in
theorem wordAt0_short (A : Option Addr) (n c : Nat) (h : n < 2) (w : World) :
    Calls Try.prog 28 #[.slice A n c, .int .i64 0] w fun e w' => e = .returned (.tuple #[.int .u16 0, .bool false]) ∧ w' = w := by
  have h' : (n : Int) < 2 := by omega
  go_enter Try.func28, Try.ntmps28
  go_wp2
  go_ret2
  exact ⟨rfl, rfl⟩
set_option maxRecDepth 100000 in
set_option maxHeartbeats 400000 in
theorem wordAt0_any (A : Option Addr) (n c : Nat) (b : List UInt8) (hn : b.length = n) (hnc : n ≤ c) (h : 2 ≤ n) (w : World) (hb : Lies u8v w A b) :
    Calls Try.prog 28 #[.slice A n c, .int .i64 0] w fun e w' => e = .returned (.tuple #[u16v (Word.word (b.getD 0 0) (b.getD 1 0)), .bool true]) ∧ Below w.heap.size w w' := by
  have h' : ¬ (n : Int) < 2 := by omega
  obtain ⟨b1, o1, rfl, _, _⟩ := hb.at_ (by omega)
  have hL : Lies u8v w (some ⟨b1, o1, none⟩) [b.getD 0 0, b.getD 1 0] := lies_two hb 0 (by omega)
  have hc : ¬ c = 0 := by omega
  generalize b.getD 0 0 = x at *
  generalize b.getD 1 0 = y at *
  clear hn hb
  go_enter Try.func28, Try.ntmps28
  go_wp2_with fail
  refine (words_any _ 2 c [x, y] rfl (by omega) (by omega) _ hL).mono ?_
  rintro e w2 ⟨A2, n2, c2, rfl, hn2, _, _, hy2, hbe2⟩
  rw [isWords_two]
  rw [ansWords_two] at hn2 hy2
  obtain rfl : n2 = 1 := hn2.symm
  obtain ⟨b2, o2, rfl, _, hc2⟩ := hy2.at_ (by simp)
  have hd : w2.cell? ⟨b2, o2, none⟩ = some (.int .u16 ((Word.word x y).toNat : Int)) := hc2 0 (by simp)
  clear hc2 hy2 hn2
  obtain ⟨z, hz⟩ : ∃ z, Word.word x y = z := ⟨_, rfl⟩
  rw [hz] at hd
  have HZ := Lib.hid hz
  clear hz
  go_wp2_with fail
  go_ret2
  exact ⟨by rw [HZ.out]; rfl, hbe2⟩
set_option maxRecDepth 100000 in
set_option maxHeartbeats 400000 in
theorem wordAt2_short (A : Option Addr) (n c : Nat) (h : n < 4) (w : World) :
    Calls Try.prog 28 #[.slice A n c, .int .i64 2] w fun e w' => e = .returned (.tuple #[.int .u16 0, .bool false]) ∧ w' = w := by
  have h' : (n : Int) < 4 := by omega
  go_enter Try.func28, Try.ntmps28
  go_wp2
  go_ret2
  exact ⟨rfl, rfl⟩
set_option maxRecDepth 100000 in
set_option maxHeartbeats 400000 in
theorem wordAt2_any (A : Option Addr) (n c : Nat) (b : List UInt8) (hn : b.length = n) (hnc : n ≤ c) (h : 4 ≤ n) (w : World) (hb : Lies u8v w A b) :
    Calls Try.prog 28 #[.slice A n c, .int .i64 2] w fun e w' => e = .returned (.tuple #[u16v (Word.word (b.getD 2 0) (b.getD 3 0)), .bool true]) ∧ Below w.heap.size w w' := by
  have h' : ¬ (n : Int) < 4 := by omega
  obtain ⟨b1, o1, rfl, _, _⟩ := hb.at_ (by omega)
  have hL : Lies u8v w (some ⟨b1, o1 + 2, none⟩) [b.getD 2 0, b.getD 3 0] := lies_two hb 2 (by omega)
  have hc : ¬ c = 2 := by omega
  generalize b.getD 2 0 = x at *
  generalize b.getD 3 0 = y at *
  clear hn hb
  go_enter Try.func28, Try.ntmps28
  go_wp2_with fail
  refine (words_any _ 2 (c - 2) [x, y] rfl (by omega) (by omega) _ hL).mono ?_
  rintro e w2 ⟨A2, n2, c2, rfl, hn2, _, _, hy2, hbe2⟩
  rw [isWords_two]
  rw [ansWords_two] at hn2 hy2
  obtain rfl : n2 = 1 := hn2.symm
  obtain ⟨b2, o2, rfl, _, hc2⟩ := hy2.at_ (by simp)
  have hd : w2.cell? ⟨b2, o2, none⟩ = some (.int .u16 ((Word.word x y).toNat : Int)) := hc2 0 (by simp)
  clear hc2 hy2 hn2
  obtain ⟨z, hz⟩ : ∃ z, Word.word x y = z := ⟨_, rfl⟩
  rw [hz] at hd
  have HZ := Lib.hid hz
  clear hz
  go_wp2_with fail
  go_ret2
  exact ⟨by rw [HZ.out]; rfl, hbe2⟩
set_option maxRecDepth 100000 in
set_option maxHeartbeats 400000 in
theorem wordAt4_short (A : Option Addr) (n c : Nat) (h : n < 6) (w : World) :
    Calls Try.prog 28 #[.slice A n c, .int .i64 4] w fun e w' => e = .returned (.tuple #[.int .u16 0, .bool false]) ∧ w' = w := by
  have h' : (n : Int) < 6 := by omega
  go_enter Try.func28, Try.ntmps28
  go_wp2
  go_ret2
  exact ⟨rfl, rfl⟩
set_option maxRecDepth 100000 in
set_option maxHeartbeats 400000 in
theorem wordAt4_any (A : Option Addr) (n c : Nat) (b : List UInt8) (hn : b.length = n) (hnc : n ≤ c) (h : 6 ≤ n) (w : World) (hb : Lies u8v w A b) :
    Calls Try.prog 28 #[.slice A n c, .int .i64 4] w fun e w' => e = .returned (.tuple #[u16v (Word.word (b.getD 4 0) (b.getD 5 0)), .bool true]) ∧ Below w.heap.size w w' := by
  have h' : ¬ (n : Int) < 6 := by omega
  obtain ⟨b1, o1, rfl, _, _⟩ := hb.at_ (by omega)
  have hL : Lies u8v w (some ⟨b1, o1 + 4, none⟩) [b.getD 4 0, b.getD 5 0] := lies_two hb 4 (by omega)
  have hc : ¬ c = 4 := by omega
  generalize b.getD 4 0 = x at *
  generalize b.getD 5 0 = y at *
  clear hn hb
  go_enter Try.func28, Try.ntmps28
  go_wp2_with fail
  refine (words_any _ 2 (c - 4) [x, y] rfl (by omega) (by omega) _ hL).mono ?_
  rintro e w2 ⟨A2, n2, c2, rfl, hn2, _, _, hy2, hbe2⟩
  rw [isWords_two]
  rw [ansWords_two] at hn2 hy2
  obtain rfl : n2 = 1 := hn2.symm
  obtain ⟨b2, o2, rfl, _, hc2⟩ := hy2.at_ (by simp)
  have hd : w2.cell? ⟨b2, o2, none⟩ = some (.int .u16 ((Word.word x y).toNat : Int)) := hc2 0 (by simp)
  clear hc2 hy2 hn2
  obtain ⟨z, hz⟩ : ∃ z, Word.word x y = z := ⟨_, rfl⟩
  rw [hz] at hd
  have HZ := Lib.hid hz
  clear hz
  go_wp2_with fail
  go_ret2
  exact ⟨by rw [HZ.out]; rfl, hbe2⟩
end Go.Proofs.Ytophchhienlafaa
