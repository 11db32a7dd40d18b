/-
  What the landed mbap's size leaves.
-/
import Derived.Test.YtophchhienlafaaWat
namespace Go.Proofs.Ytophchhienlafaa
open Go.RowKit

def SizePost (w : World) (b : List UInt8) (e : Ending) (w' : World) : Prop :=
  e = .returned (.tuple #[.int .i64 ((Mb.size b : Nat) : Int), .int .i64 ((Mb.codeB b : Nat) : Int)]) ∧ Below w.heap.size w w'
theorem SizePost.bad (w w' : World) (b : List UInt8) (k : Nat) (h : Mb.codeB b = k) (hk : k ≠ 0) (hb : Below w.heap.size w w') : SizePost w b (.returned (.tuple #[.int .i64 0, .int .i64 (k : Int)])) w' :=
  ⟨by rw [h, Mb.size_bad b (by rw [h]; exact hk)]; rfl, hb⟩
theorem SizePost.good (w w' : World) (b : List UInt8) (s : Nat) (h : Mb.codeB b = 0) (hs : 6 + Mb.follow b = s) (hb : Below w.heap.size w w') : SizePost w b (.returned (.tuple #[.int .i64 (s : Int), .int .i64 0])) w' :=
  ⟨by rw [h, Mb.size_good b h, hs]; rfl, hb⟩

set_option maxRecDepth 100000 in
set_option maxHeartbeats 400000 in
theorem size_none (A : Option Addr) (n c : Nat) (b : List UInt8) (hn : b.length = n) (w : World) (h : n < 4) :
    Calls Try.prog 27 #[.slice A n c] w (SizePost w b) := by
  have HC := Lib.hid (Mb.codeB_few b (.inl (by omega)) (by omega))
  go_enter Try.func27, Try.ntmps27
  go_wp2_with fail
  refine (wordAt2_short _ n c (by omega) _).mono ?_
  rintro e w1 ⟨rfl, rfl⟩
  go_wp2_with fail
  refine (wordAt4_short _ n c (by omega) _).mono ?_
  rintro e w2 ⟨rfl, rfl⟩
  go_wp2_with fail
  go_ret2
  exact SizePost.bad _ _ _ 3 HC.out (by omega) (Below.refl _ _)
set_option maxRecDepth 100000 in
set_option maxHeartbeats 400000 in
theorem size_kind (A : Option Addr) (n c : Nat) (b : List UInt8) (hn : b.length = n) (hnc : n ≤ c) (w : World) (hb : Lies u8v w A b) (h : 4 ≤ n) (h2 : b.getD 2 0 ≠ 0 ∨ b.getD 3 0 ≠ 0) :
    Calls Try.prog 27 #[.slice A n c] w (SizePost w b) := by
  have HC := Lib.hid (Mb.codeB_kind b (by omega) h2)
  have hz : (((Word.word (b.getD 2 0) (b.getD 3 0)).toNat : Int) != 0) = true := by
    rw [bne_iff_ne]
    intro e
    have : Word.word (b.getD 2 0) (b.getD 3 0) = 0 := UInt16.toNat_inj.1 (by simpa using e)
    rw [Mb.word_zero] at this
    rcases h2 with h2 | h2
    · exact h2 this.1
    · exact h2 this.2
  go_enter Try.func27, Try.ntmps27
  go_wp2_with fail
  refine (wordAt2_any A n c b hn hnc (by omega) _ hb).mono ?_
  rintro e w1 ⟨rfl, hb1⟩
  generalize Word.word (b.getD 2 0) (b.getD 3 0) = z at *
  go_wp2_with fail
  go_ret2
  exact SizePost.bad _ _ _ 2 HC.out (by omega) hb1
set_option maxRecDepth 100000 in
set_option maxHeartbeats 400000 in
theorem size_few (A : Option Addr) (n c : Nat) (b : List UInt8) (hn : b.length = n) (hnc : n ≤ c) (w : World) (hb : Lies u8v w A b) (h : 4 ≤ n) (h6 : n < 6) (h2 : b.getD 2 0 = 0) (h3 : b.getD 3 0 = 0) :
    Calls Try.prog 27 #[.slice A n c] w (SizePost w b) := by
  have HC := Lib.hid (Mb.codeB_few b (.inr ⟨h2, h3⟩) (by omega))
  have hz : Word.word (b.getD 2 0) (b.getD 3 0) = 0 := (Mb.word_zero _ _).2 ⟨h2, h3⟩
  go_enter Try.func27, Try.ntmps27
  go_wp2_with fail
  refine (wordAt2_any A n c b hn hnc (by omega) _ hb).mono ?_
  rintro e w1 ⟨rfl, hb1⟩
  rw [hz]
  go_wp2_with fail
  refine (wordAt4_short _ n c (by omega) _).mono ?_
  rintro e w2 ⟨rfl, rfl⟩
  go_wp2_with fail
  go_ret2
  exact SizePost.bad _ _ _ 3 HC.out (by omega) hb1
set_option maxRecDepth 100000 in
set_option maxHeartbeats 400000 in
theorem size_low (A : Option Addr) (n c : Nat) (b : List UInt8) (hn : b.length = n) (hnc : n ≤ c) (w : World) (hb : Lies u8v w A b) (h : 6 ≤ n) (h2 : b.getD 2 0 = 0) (h3 : b.getD 3 0 = 0) (hf : Mb.follow b < 2) :
    Calls Try.prog 27 #[.slice A n c] w (SizePost w b) := by
  have HC := Lib.hid (Mb.codeB_odd b (by omega) (.inl hf))
  have hz : Word.word (b.getD 2 0) (b.getD 3 0) = 0 := (Mb.word_zero _ _).2 ⟨h2, h3⟩
  have hfw : (Word.word (b.getD 4 0) (b.getD 5 0)).toNat = Mb.follow b := Mb.word_toNat _ _
  have hx : ((Word.word (b.getD 4 0) (b.getD 5 0)).toNat : Int) < 2 := by omega
  clear hfw
  go_enter Try.func27, Try.ntmps27
  go_wp2_with fail
  refine (wordAt2_any A n c b hn hnc (by omega) _ hb).mono ?_
  rintro e w1 ⟨rfl, hb1⟩
  rw [hz]
  go_wp2_with fail
  refine (wordAt4_any A n c b hn hnc (by omega) _ (hb.below hb1 (Nat.le_refl _))).mono ?_
  rintro e w2 ⟨rfl, hb2⟩
  have hbe := hb1.trans (hb2.mono hb1.size)
  generalize Word.word (b.getD 4 0) (b.getD 5 0) = z at *
  go_wp2_with fail
  go_ret2
  exact SizePost.bad _ _ _ 2 HC.out (by omega) hbe
set_option maxRecDepth 100000 in
set_option maxHeartbeats 400000 in
theorem size_high (A : Option Addr) (n c : Nat) (b : List UInt8) (hn : b.length = n) (hnc : n ≤ c) (w : World) (hb : Lies u8v w A b) (h : 6 ≤ n) (h2 : b.getD 2 0 = 0) (h3 : b.getD 3 0 = 0) (hf : 254 < Mb.follow b) :
    Calls Try.prog 27 #[.slice A n c] w (SizePost w b) := by
  have HC := Lib.hid (Mb.codeB_odd b (by omega) (.inr hf))
  have hz : Word.word (b.getD 2 0) (b.getD 3 0) = 0 := (Mb.word_zero _ _).2 ⟨h2, h3⟩
  have hfw : (Word.word (b.getD 4 0) (b.getD 5 0)).toNat = Mb.follow b := Mb.word_toNat _ _
  have hx : ¬ ((Word.word (b.getD 4 0) (b.getD 5 0)).toNat : Int) < 2 := by omega
  have hy : (254 : Int) < ((Word.word (b.getD 4 0) (b.getD 5 0)).toNat : Int) := by omega
  clear hfw
  go_enter Try.func27, Try.ntmps27
  go_wp2_with fail
  refine (wordAt2_any A n c b hn hnc (by omega) _ hb).mono ?_
  rintro e w1 ⟨rfl, hb1⟩
  rw [hz]
  go_wp2_with fail
  refine (wordAt4_any A n c b hn hnc (by omega) _ (hb.below hb1 (Nat.le_refl _))).mono ?_
  rintro e w2 ⟨rfl, hb2⟩
  have hbe := hb1.trans (hb2.mono hb1.size)
  generalize Word.word (b.getD 4 0) (b.getD 5 0) = z at *
  go_wp2_with fail
  go_ret2
  exact SizePost.bad _ _ _ 2 HC.out (by omega) hbe
set_option maxRecDepth 100000 in
set_option maxHeartbeats 400000 in
theorem size_short (A : Option Addr) (n c : Nat) (b : List UInt8) (hn : b.length = n) (hnc : n ≤ c) (w : World) (hb : Lies u8v w A b) (h : 6 ≤ n) (h2 : b.getD 2 0 = 0) (h3 : b.getD 3 0 = 0) (hf1 : 2 ≤ Mb.follow b) (hf2 : Mb.follow b ≤ 254) (hs : n < 6 + Mb.follow b) :
    Calls Try.prog 27 #[.slice A n c] w (SizePost w b) := by
  have HC := Lib.hid (Mb.codeB_short b h2 h3 hf1 hf2 (.inr (by omega)))
  have hz : Word.word (b.getD 2 0) (b.getD 3 0) = 0 := (Mb.word_zero _ _).2 ⟨h2, h3⟩
  have hfw : (Word.word (b.getD 4 0) (b.getD 5 0)).toNat = Mb.follow b := Mb.word_toNat _ _
  have hx : ¬ ((Word.word (b.getD 4 0) (b.getD 5 0)).toNat : Int) < 2 := by omega
  have hy : ¬ (254 : Int) < ((Word.word (b.getD 4 0) (b.getD 5 0)).toNat : Int) := by omega
  have hv : (n : Int) < 6 + ((Word.word (b.getD 4 0) (b.getD 5 0)).toNat : Int) := by omega
  clear hfw
  go_enter Try.func27, Try.ntmps27
  go_wp2_with fail
  refine (wordAt2_any A n c b hn hnc (by omega) _ hb).mono ?_
  rintro e w1 ⟨rfl, hb1⟩
  rw [hz]
  go_wp2_with fail
  refine (wordAt4_any A n c b hn hnc (by omega) _ (hb.below hb1 (Nat.le_refl _))).mono ?_
  rintro e w2 ⟨rfl, hb2⟩
  have hbe := hb1.trans (hb2.mono hb1.size)
  generalize Word.word (b.getD 4 0) (b.getD 5 0) = z at *
  go_wp2_with fail
  go_ret2
  exact SizePost.bad _ _ _ 3 HC.out (by omega) hbe
set_option maxRecDepth 100000 in
set_option maxHeartbeats 400000 in
theorem size_fine (A : Option Addr) (n c : Nat) (b : List UInt8) (hn : b.length = n) (hnc : n ≤ c) (w : World) (hb : Lies u8v w A b) (h : 6 ≤ n) (h2 : b.getD 2 0 = 0) (h3 : b.getD 3 0 = 0) (hf1 : 2 ≤ Mb.follow b) (hf2 : Mb.follow b ≤ 254) (hs : 6 + Mb.follow b ≤ n) :
    Calls Try.prog 27 #[.slice A n c] w (SizePost w b) := by
  have HC := Lib.hid (Mb.codeB_good b h2 h3 hf1 hf2 (by omega))
  have hz : Word.word (b.getD 2 0) (b.getD 3 0) = 0 := (Mb.word_zero _ _).2 ⟨h2, h3⟩
  have hfw : (Word.word (b.getD 4 0) (b.getD 5 0)).toNat = Mb.follow b := Mb.word_toNat _ _
  have hx : ¬ ((Word.word (b.getD 4 0) (b.getD 5 0)).toNat : Int) < 2 := by omega
  have hy : ¬ (254 : Int) < ((Word.word (b.getD 4 0) (b.getD 5 0)).toNat : Int) := by omega
  have hv : ¬ (n : Int) < 6 + ((Word.word (b.getD 4 0) (b.getD 5 0)).toNat : Int) := by omega
  have HF := Lib.hid hfw
  clear hfw
  go_enter Try.func27, Try.ntmps27
  go_wp2_with fail
  refine (wordAt2_any A n c b hn hnc (by omega) _ hb).mono ?_
  rintro e w1 ⟨rfl, hb1⟩
  rw [hz]
  go_wp2_with fail
  refine (wordAt4_any A n c b hn hnc (by omega) _ (hb.below hb1 (Nat.le_refl _))).mono ?_
  rintro e w2 ⟨rfl, hb2⟩
  have hbe := hb1.trans (hb2.mono hb1.size)
  obtain ⟨z, hzw⟩ : ∃ z, Word.word (b.getD 4 0) (b.getD 5 0) = z := ⟨_, rfl⟩
  rw [hzw] at HF hx hy hv ⊢
  clear hzw
  go_wp2_with fail
  go_ret2
  refine cast (congrArg (fun v => SizePost w b (.returned (.tuple #[.int .i64 v, .int .i64 0])) w2) ?_) (SizePost.good w w2 b _ HC.out rfl hbe)
  rw [← HF.out]
  omega

theorem size_any (A : Option Addr) (n c : Nat) (b : List UInt8) (hn : b.length = n) (hnc : n ≤ c) (w : World) (hb : Lies u8v w A b) :
    Calls Try.prog 27 #[.slice A n c] w (SizePost w b) := by
  by_cases h4 : n < 4
  · exact size_none A n c b hn w h4
  by_cases hk : b.getD 2 0 ≠ 0 ∨ b.getD 3 0 ≠ 0
  · exact size_kind A n c b hn hnc w hb (by omega) hk
  have h2 : b.getD 2 0 = 0 := Classical.byContradiction fun h => hk (.inl h)
  have h3 : b.getD 3 0 = 0 := Classical.byContradiction fun h => hk (.inr h)
  by_cases h6 : n < 6
  · exact size_few A n c b hn hnc w hb (by omega) h6 h2 h3
  by_cases hl : Mb.follow b < 2
  · exact size_low A n c b hn hnc w hb (by omega) h2 h3 hl
  by_cases hh : 254 < Mb.follow b
  · exact size_high A n c b hn hnc w hb (by omega) h2 h3 hh
  by_cases hs : n < 6 + Mb.follow b
  · exact size_short A n c b hn hnc w hb (by omega) h2 h3 (by omega) (by omega) hs
  · exact size_fine A n c b hn hnc w hb (by omega) h2 h3 (by omega) (by omega) (by omega)
end Go.Proofs.Ytophchhienlafaa
