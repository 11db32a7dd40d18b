
/-
  The landed ask: put (a number's lower bytes behind others), wordsIn.
-/
import Derived.Test.YtaembpncoicdpaaPa
namespace Go.Proofs.Ytaembpncoicdpaa
open Go.RowKit Go.Shelf

/-- A number's lower bytes, as many as there are to be. -/
def low (x : UInt16) (sz : Nat) : List UInt8 := (Word.two x).drop (2 - sz)
theorem low_length (x : UInt16) (sz : Nat) (h : sz ≤ 2) : (low x sz).length = sz := by
  unfold low
  rw [List.length_drop, show (Word.two x).length = 2 from rfl]
  omega

set_option maxRecDepth 100000 in
set_option maxHeartbeats 400000 in
theorem put6_any (x : UInt16) (sz : Nat) (h1 : sz = 1 ∨ sz = 2) (B : Nat) (v : Value) (n : Nat) (xs : List UInt8) (w : World) (hown : w.ownsRow B 5 1 v n (xs.map u8v)) (hB : B ≤ w.heap.size) (h47 : n ≤ 100000) :
    Calls Try.prog 58 #[v, .int .i64 (x.toNat : Int), .int .i64 (sz : Int)] w fun e w' => ∃ A c, e = .returned (.slice A (n + sz) c) ∧ w'.ownsRow B 5 1 (.slice A (n + sz) c) (n + sz) ((xs ++ low x sz).map u8v) ∧ Below B w w' ∧ w.grownBy w' v.ownBlock ∧ (∀ g, (Value.slice A (n + sz) c).ownBlock = some g → v.ownBlock = some g ∨ w.heap.size ≤ g) := by
  have hP := fun w => put_any x w
  rw [twov_eq] at hP
  have hT := Lib.hid (two_map x)
  have hx := x.toNat_lt
  unfold u16v at hP
  have i1 : (x.toNat : Int) % 65536 = (x.toNat : Int) := by omega
  rcases h1 with rfl | rfl
  · have hL : Hid ([Value.int .u8 ((x.toNat : Int) % 256)] = (low x 1).map u8v) := Lib.hid (by
      have := hT.out
      unfold low Word.two at *
      simp only [List.map_cons, List.map_nil, List.cons.injEq] at this
      simp only [Nat.reduceSub, List.drop_succ_cons, List.drop_zero, List.map_cons, List.map_nil, this.2.1])
    clear hT
    go_enter Try.func58, Try.ntmps58
    go_wp2_with fail
    refine (hP _).mono ?_
    rintro e w1 ⟨rfl, hb1⟩
    have hown1 := own_below hown hb1
    have hz := hb1.size
    have hg1 := grown_of_below hb1 v.ownBlock
    have hl : Lies u8v (w1.alloc (.cells #[.int .u8 ((x.toNat / 256 : Nat) : Int), .int .u8 ((x.toNat % 256 : Nat) : Int)] 100)) (some ⟨w1.heap.size, 1, none⟩) (low x 1) := by
      refine Lies.of_row fun j hj => ?_
      obtain rfl : j = 0 := by rw [low_length _ _ (by omega)] at hj; omega
      have h4 : (low x 1)[0] = UInt8.ofNat (x.toNat % 256) := rfl
      rw [h4]
      simp [u8v]
    go_wp2_with (first
      | (at_builtin; go_must (refine wpList_append_led kit8 one8 _ rfl (.tmp 11) (.tmp 14) rfl B _ n xs rfl (hown1.alloc _) (some ⟨w1.heap.size, 1, none⟩) 1 1 (low x 1) rfl (low_length _ _ (by omega)) hl (by omega) (by unfold maxLen; omega) (by simp; omega) ?_; intro A2 c2 w2 hown2 hg2 hb2 hled)))
    go_ret
    exact ⟨A2, c2, rfl, hown2, (hb1.mono hB).trans (((Below.refl B w1).alloc (by omega) _).trans hb2), hg1.trans ((World.grownBy_alloc _ _ _).trans hg2), fun g e => (hled g e).imp id (fun e => by simp at e; omega)⟩
  · have hL : Hid (low x 2 = Word.two x) := Lib.hid rfl
    go_enter Try.func58, Try.ntmps58
    go_wp2_with fail
    refine (hP _).mono ?_
    rintro e w1 ⟨rfl, hb1⟩
    have hown1 := own_below hown hb1
    have hz := hb1.size
    have hg1 := grown_of_below hb1 v.ownBlock
    have hl : Lies u8v (w1.alloc (.cells #[.int .u8 ((x.toNat / 256 : Nat) : Int), .int .u8 ((x.toNat % 256 : Nat) : Int)] 100)) (some ⟨w1.heap.size, 0, none⟩) (low x 2) := by
      rw [hL.out]
      exact lies_new _ _ _ _ (by rw [hT.out]; simp)
    go_wp2_with (first
      | (at_builtin; go_must (refine wpList_append_led kit8 one8 _ rfl (.tmp 11) (.tmp 14) rfl B _ n xs rfl (hown1.alloc _) (some ⟨w1.heap.size, 0, none⟩) 2 2 (low x 2) rfl (low_length _ _ (by omega)) hl (by omega) (by unfold maxLen; omega) (by simp; omega) ?_; intro A2 c2 w2 hown2 hg2 hb2 hled)))
    go_ret
    exact ⟨A2, c2, rfl, hown2, (hb1.mono hB).trans (((Below.refl B w1).alloc (by omega) _).trans hb2), hg1.trans ((World.grownBy_alloc _ _ _).trans hg2), fun g e => (hled g e).imp id (fun e => by simp at e; omega)⟩
theorem grown_cell {w w' : World} {row : Option Nat} (h : w.grownBy w' row) {p : Addr} {v : Value} (hc : w.cell? p = some v) (hne : row ≠ some p.block) : w'.cell? p = some v :=
  (World.cell?_of_block (w := w) (h.block p.block (World.block_lt_of_cell? _ _ hc) (fun e => hne e.symm))).trans hc
end Go.Proofs.Ytaembpncoicdpaa
