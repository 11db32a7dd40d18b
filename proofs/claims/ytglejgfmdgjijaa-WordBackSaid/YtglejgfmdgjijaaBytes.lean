/-
  Bytes and Pack.
-/
import Derived.Test.YtglejgfmdgjijaaJoin
namespace Go.Proofs.Ytglejgfmdgjijaa
open Go.RowKit

set_option maxRecDepth 100000 in
set_option maxHeartbeats 400000 in
theorem bytes_any (A : Option Addr) (n c : Nat) (l : List UInt16) (hn : l.length = n) (hm : n ≤ 20000) (w : World) (hb : Lies u16v w A l) :
    Calls Try.prog 14 #[.slice A n c] w fun e w' => ∃ A' c', e = .returned (.slice A' (2 * n) c') ∧ 2 * n ≤ c' ∧ c' ≤ maxLen ∧ Lies u8v w' A' (Word.bytes l) ∧ Below w.heap.size w w' := by
  have HN := Lib.hid hn
  clear hn
  go_enter Try.func14, Try.ntmps14
  go_wp2_with fail
  refine (values_any A n c w).mono ?_
  rintro e w1 ⟨rfl, hw1⟩
  have hc1 : w1.cell? ⟨w.heap.size, 0, none⟩ = some (.slice A n c) := by rw [hw1]; simp
  have hbe1 : Below w.heap.size w w1 := by rw [hw1]; exact (Below.refl _ _).alloc (Nat.le_refl _) _
  have hb1 := hb.below hbe1 (Nat.le_refl _)
  clear hw1
  go_wp2_with fail
  refine (join16_any w.heap.size n c (2 * n) _ (by simp) A l HN.out (by omega) hm w1 hc1 hb1).mono ?_
  rintro e w2 ⟨A2, c2, rfl, h1, h2, h3, hbe2⟩
  go_wp2_with fail
  go_ret
  exact ⟨A2, c2, rfl, h1, h2, h3, hbe1.trans (hbe2.mono hbe1.size)⟩

set_option maxRecDepth 100000 in
set_option maxHeartbeats 400000 in
theorem pack_any (A : Option Addr) (n c : Nat) (l : List Bool) (hn : l.length = n) (hnc : n ≤ c) (hm : n ≤ 20000) (w : World) (hb : Lies bitv w A l) :
    Calls Try.prog 16 #[.slice A n c] w fun e w' => ∃ A' c', e = .returned (.slice A' ((n + 7) / 8) c') ∧ (n + 7) / 8 ≤ c' ∧ c' ≤ maxLen ∧ Lies u8v w' A' (Word.pack l) ∧ Below w.heap.size w w' := by
  have HN := Lib.hid hn
  clear hn
  go_enter Try.func16, Try.ntmps16
  go_wp2_with fail
  refine (chunkb_any A n c w).mono ?_
  rintro e w1 ⟨rfl, hw1⟩
  have hc1 : w1.cell? ⟨w.heap.size, 0, none⟩ = some (.slice A n c) := by rw [hw1]; simp
  have hm1 : w1.cell? ⟨w.heap.size + 1, 0, none⟩ = some (.int .i64 8) := by rw [hw1]; have := (Boxed.new (w.alloc (.cells #[.slice A n c] 28)) 3 (.int .i64 8)).cell; rw [World.size_alloc] at this; exact this
  have hbe1 : Below w.heap.size w w1 := by rw [hw1]; exact ((Below.refl _ _).alloc (Nat.le_refl _) _).alloc (by simp) _
  have hb1 := hb.below hbe1 (Nat.le_refl _)
  clear hw1
  go_wp2_with fail
  refine (taken_any n (by omega) w1).mono ?_
  rintro e w1' ⟨rfl, rfl⟩
  go_wp2_with fail
  refine (joinb_any w.heap.size (w.heap.size + 1) n c ((n + 7) / 8) _ rfl hnc A l HN.out (by omega) hm w1 hc1 hm1 hb1).mono ?_
  rintro e w2 ⟨A2, c2, rfl, h1, h2, h3, hbe2⟩
  go_wp2_with fail
  go_ret
  exact ⟨A2, c2, rfl, h1, h2, h3, hbe1.trans (hbe2.mono hbe1.size)⟩
end Go.Proofs.Ytglejgfmdgjijaa
