/-
  The laws' own 'awake' (layer 4): true, and nothing that was there is touched.
-/
import Derived.Test.YthpemcnjdgjlaaaDraft
import Derived.Test.YthpemcnjdgjlaaaKeep
namespace Go.Proofs.Ythpemcnjdgjlaaa
open Go.RowKit

theorem awake_f1 : Mb.codeP [3] = 0 := by decide +kernel
theorem awake_f2 : Mb.bytes 1 2 [3] = [0, 1, 0, 0, 0, 2, 2, 3] := by decide +kernel
theorem awake_f3 : Mb.codeB [0, 1, 0, 0, 0, 2, 2, 3, 9] = 0 := by decide +kernel
theorem awake_f4 : Mb.unit [0, 1, 0, 0, 0, 2, 2, 3, 9] = 2 := by decide +kernel
theorem awake_f5 : Mb.pdu [0, 1, 0, 0, 0, 2, 2, 3, 9] = [3] := by decide +kernel
theorem awake_f6 : Mb.codeB [0, 1, 1, 0] = 2 := by decide +kernel
theorem awake_f7 : Mb.codeB [] = 3 := by decide +kernel
theorem awake_f8 : Mb.tid [0, 1, 0, 0, 0, 2, 2, 3, 9] = 1 := by decide +kernel
theorem awake_f9 : Mb.size [0, 1, 0, 0, 0, 2, 2, 3, 9] = 8 := by decide +kernel
theorem row_two' {w : World} {g : Nat} {a b : Value} {t : TypeId} (h : w.heap[g]? = some (.cells #[a, b] t (0, 0))) :
    w.cell? ⟨g, 0, none⟩ = some a ∧ w.cell? ⟨g, 1, none⟩ = some b := ⟨(row_two h).1, (row_two h).2.1⟩
theorem append_mono {w w' : World} {B e n c : Nat} {A : Option Addr} {xs : List Value} (h : w.ownsRow B e 1 (.slice A n c) n xs) (hb : Below w.heap.size w w') : w'.ownsRow B e 1 (.slice A n c) n xs := own_below h hb

set_option maxRecDepth 100000 in
set_option maxHeartbeats 1000000 in
theorem awake_any (w : World) : Calls Try.prog 6 #[] w fun e w' => e = .returned (.bool true) ∧ Below w.heap.size w w' := by
  go_enter Try.func6, Try.ntmps6
  go_wp2_with fail
  have hl1 := lies_new (f := u8v) w #[.int .u8 3] 5 [(3 : UInt8)] rfl
  have hs0 : Below w.heap.size w (w.alloc (.cells #[.int .u8 3] 5)) := (Below.refl _ _).alloc (Nat.le_refl _) _
  refine (bytes4_any 1 2 _ 1 1 [3] rfl (by omega) _ hl1).mono ?_
  rintro e w1 ⟨A1, n1, c1, rfl, hn1, hown1', hbe1'⟩
  rw [awake_f1]
  rw [awake_f2] at hn1 hown1'
  obtain rfl : n1 = 8 := hn1.symm
  have hbe1 : Below w.heap.size w w1 := hs0.trans (hbe1'.mono hs0.size)
  have hz1 := hbe1.size
  have hown1 := own_lower hown1' (Nat.le_of_lt (show w.heap.size < (w.alloc (.cells #[.int .u8 3] 5)).heap.size by simp))
  clear hn1 hown1' hbe1' hl1 hs0
  go_wp2_with (at_builtin; go_must (refine wpList_append_kept kit8 one8 _ rfl (.tmp 19) (.tmp 20) rfl w.heap.size A1 8 c1 [0, 1, 0, 0, 0, 2, 2, 3] rfl (append_mono hown1 ((Below.refl _ w1).alloc (Nat.le_refl _) (.cells #[.int .u8 9] 5))) (some ⟨w1.heap.size, 0, none⟩) 1 1 [9] rfl rfl (lies_new (f := u8v) w1 #[.int .u8 9] 5 [(9 : UInt8)] rfl) (by omega) (by unfold maxLen; omega) (by simp; omega) ?_; intro A2 c2 w2 hown2 hb2 hs2'))
  have hbe2 := (hbe1.trans (((Below.refl _ w1).alloc (Nat.le_refl _) (.cells #[.int .u8 9] 5)).mono hz1)).trans hs2'
  have hz2 := hbe2.size
  obtain ⟨h21, h22, _, hp2⟩ := own_at hown2
  clear hs2' hown1 hbe1 hown2
  refine (read4_any A2 (8 + 1) c2 [0, 1, 0, 0, 0, 2, 2, 3, 9] rfl h21 (by omega) _ hp2).mono ?_
  rintro e w3 ⟨A3, n3, c3, rfl, hn3, _, _, hx3, hs3, _⟩
  rw [awake_f3, awake_f4, awake_f8, awake_f9]
  rw [awake_f5] at hn3 hx3
  obtain rfl : n3 = 1 := hn3.symm
  clear hn3
  have hbe3 := hbe2.trans (hs3.mono hz2)
  have hb3 := hb2.below hs3 (Nat.le_refl _)
  have hp3 := hp2.below hs3 (Nat.le_refl _)
  have hz3 := hbe3.size
  clear hbe2 hs3 hz2 hb2 hp2
  clear hp3
  go_wp2_with fail
  have hf4 := row_at w3 #[.int .u16 1, .int .u8 2, .slice A3 1 c3] 25 _ rfl
  have hs4 : Below w3.heap.size w3 (w3.alloc (.cells #[.int .u16 1, .int .u8 2, .slice A3 1 c3] 25)) := (Below.refl _ _).alloc (Nat.le_refl _) _
  obtain ⟨gf, hgf⟩ : ∃ g, w3.heap.size = g := ⟨_, rfl⟩
  have hszf : (w3.alloc (.cells #[.int .u16 1, .int .u8 2, .slice A3 1 c3] 25)).heap.size = gf + 1 := by simp [hgf]
  generalize w3.alloc (.cells #[.int .u16 1, .int .u8 2, .slice A3 1 c3] 25) = w4 at *
  have hbe4 := hbe3.trans (hs4.mono hz3)
  have hb4 := hb3.below hs4 (Nat.le_refl _)
  have hx4 := hx3.below hs4 (Nat.le_refl _)
  have hz4 := hbe4.size
  clear hbe3 hs4 hz3 hb3 hx3
  rw [hgf] at *
  clear hgf
  have hl5 := lies_at (f := u8v) w4 #[.int .u8 0, .int .u8 1, .int .u8 1, .int .u8 0] 5 (gf + 1) [(0 : UInt8), 1, 1, 0] rfl hszf
  have hs5 : Below w4.heap.size w4 (w4.alloc (.cells #[.int .u8 0, .int .u8 1, .int .u8 1, .int .u8 0] 5)) := (Below.refl _ _).alloc (Nat.le_refl _) _
  generalize w4.alloc (.cells #[.int .u8 0, .int .u8 1, .int .u8 1, .int .u8 0] 5) = w5 at *
  have hbe5 := hbe4.trans (hs5.mono hz4)
  have hb5 := hb4.below hs5 (Nat.le_refl _)
  have hx5 := hx4.below hs5 (Nat.le_refl _)
  have hf5 := row_later hf4 hs5
  have hz5 := hbe5.size
  clear hbe4 hs5 hz4 hf4 hb4 hx4
  clear hszf
  refine (read4_any _ 4 4 [0, 1, 1, 0] rfl (by omega) (by omega) _ hl5).mono ?_
  rintro e w6 ⟨A6, n6, c6, rfl, hn6, _, _, hxx6, hs6, _⟩
  rw [awake_f6]
  clear hn6 hxx6
  have hbe6 := hbe5.trans (hs6.mono hz5)
  have hb6 := hb5.below hs6 (Nat.le_refl _)
  have hx6 := hx5.below hs6 (Nat.le_refl _)
  have hl6 := hl5.below hs6 (Nat.le_refl _)
  have hf6 := row_later hf5 hs6
  have hz6 := hbe6.size
  clear hbe5 hs6 hz5 hf5 hb5 hx5 hl5
  clear hl6
  go_wp2_with fail
  have hg7 := row_at w6 #[u16v (Mb.tid [0, 1, 1, 0]), u8v (Mb.unit [0, 1, 1, 0]), .slice A6 n6 c6] 25 _ rfl
  have hs7 : Below w6.heap.size w6 (w6.alloc (.cells #[u16v (Mb.tid [0, 1, 1, 0]), u8v (Mb.unit [0, 1, 1, 0]), .slice A6 n6 c6] 25)) := (Below.refl _ _).alloc (Nat.le_refl _) _
  obtain ⟨gg, hgg⟩ : ∃ g, w6.heap.size = g := ⟨_, rfl⟩
  have hszg : (w6.alloc (.cells #[u16v (Mb.tid [0, 1, 1, 0]), u8v (Mb.unit [0, 1, 1, 0]), .slice A6 n6 c6] 25)).heap.size = gg + 1 := by simp [hgg]
  generalize w6.alloc (.cells #[u16v (Mb.tid [0, 1, 1, 0]), u8v (Mb.unit [0, 1, 1, 0]), .slice A6 n6 c6] 25) = w7 at *
  have hbe7 := hbe6.trans (hs7.mono hz6)
  have hb7 := hb6.below hs7 (Nat.le_refl _)
  have hx7 := hx6.below hs7 (Nat.le_refl _)
  have hf7 := row_later hf6 hs7
  have hz7 := hbe7.size
  clear hbe6 hs7 hz6 hf6 hb6 hx6
  rw [hgg] at *
  clear hgg
  refine (read4_any Option.none 0 0 [] rfl (by omega) (by omega) _ (Lies.nil _ _)).mono ?_
  rintro e w8 ⟨A8, n8, c8, rfl, hn8, _, _, hxx8, hs8, _⟩
  rw [awake_f7]
  clear hn8 hxx8
  have hbe8 := hbe7.trans (hs8.mono hz7)
  have hb8 := hb7.below hs8 (Nat.le_refl _)
  have hx8 := hx7.below hs8 (Nat.le_refl _)
  have hf8 := row_later hf7 hs8
  have hg8 := row_later hg7 hs8
  have hz8 := hbe8.size
  clear hbe7 hs8 hz7 hf7 hg7 hb7 hx7
  go_wp2_with fail
  have hh9 := row_at w8 #[u16v (Mb.tid []), u8v (Mb.unit []), .slice A8 n8 c8] 25 _ rfl
  have hs9 : Below w8.heap.size w8 (w8.alloc (.cells #[u16v (Mb.tid []), u8v (Mb.unit []), .slice A8 n8 c8] 25)) := (Below.refl _ _).alloc (Nat.le_refl _) _
  obtain ⟨gh, hgh⟩ : ∃ g, w8.heap.size = g := ⟨_, rfl⟩
  have hszh : (w8.alloc (.cells #[u16v (Mb.tid []), u8v (Mb.unit []), .slice A8 n8 c8] 25)).heap.size = gh + 1 := by simp [hgh]
  generalize w8.alloc (.cells #[u16v (Mb.tid []), u8v (Mb.unit []), .slice A8 n8 c8] 25) = w9 at *
  have hbe9 := hbe8.trans (hs9.mono hz8)
  have hb9 := hb8.below hs9 (Nat.le_refl _)
  have hx9 := hx8.below hs9 (Nat.le_refl _)
  have hf9 := row_later hf8 hs9
  have hg9 := row_later hg8 hs9
  have hz9 := hbe9.size
  clear hbe8 hs9 hz8 hf8 hg8 hb8 hx8
  rw [hgh] at *
  clear hgh
  obtain ⟨hqf0, hqf1, hqf2⟩ := row_three hf9
  have hltf := row_lt hf9
  obtain ⟨b1, o1, rfl, hltb, hcb⟩ := hb9.at_ (by simp)
  have hb1 : w9.cell? ⟨b1, o1 + 1, none⟩ = some (.int .u8 1) := hcb 1 (by simp)
  have hb5 : w9.cell? ⟨b1, o1 + 5, none⟩ = some (.int .u8 2) := hcb 5 (by simp)
  have hb7 : w9.cell? ⟨b1, o1 + 7, none⟩ = some (.int .u8 3) := hcb 7 (by simp)
  clear hcb
  go_wp2_with fail
  go_simp
  go_wp2_with fail
  go_simp
  go_wp2_with fail
  go_simp
  go_wp2_with fail
  refine (same4_any 1 1 2 2 A3 A3 1 1 c3 c3 [3] [3] rfl rfl (by unfold maxLen; omega) _ hx9 hx9).mono ?_
  rintro e w10 ⟨rfl, hs10⟩
  rw [Mb.same_self]
  have hbe10 := hbe9.trans (hs10.mono hz9)
  have hb10 := hb9.below hs10 (Nat.le_refl _)
  have hx10 := hx9.below hs10 (Nat.le_refl _)
  have hf10 := row_later hf9 hs10
  have hg10 := row_later hg9 hs10
  have hh10 := row_later hh9 hs10
  have hz10 := hbe10.size
  clear hbe9 hs10 hz9 hf9 hg9 hh9 hb9 hx9 hqf0 hqf1 hqf2 hltf
  go_wp2_with fail
  go_ret
  exact ⟨rfl, hbe10⟩
end Go.Proofs.Ythpemcnjdgjlaaa
