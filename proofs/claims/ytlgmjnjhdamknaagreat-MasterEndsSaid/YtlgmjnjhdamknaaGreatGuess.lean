
/-
  Requests: guess of the document's layer 6, walked (trial).
-/
import Derived.Test.YtlgmjnjhdamknaaGreatRask2
import Derived.Deep.RegionHeld3
import Derived.Deep.DrawnRows
namespace Go.Proofs.YtlgmjnjhdamknaaGreat
open Go.RowKit

attribute [local go_sem ↓] Go.wp_at_zero Go.wp_at_succ

theorem stored_eight {w : World} {g : Nat} {c0 c1 c2 c3 c4 c5 c6 c7 : Value} {t : TypeId} (h : w.heap[g]? = some (.cells #[c0, c1, c2, c3, c4, c5, c6, c7] t (0, 0))) (d0 d1 d2 d3 d4 d5 d6 d7 : Value) :
    ((((((((w.setCell ⟨g, 0, none⟩ d0).setCell ⟨g, 1, none⟩ d1).setCell ⟨g, 2, none⟩ d2).setCell ⟨g, 3, none⟩ d3).setCell ⟨g, 4, none⟩ d4).setCell ⟨g, 5, none⟩ d5).setCell ⟨g, 6, none⟩ d6).setCell ⟨g, 7, none⟩ d7).heap[g]? = some (.cells #[d0, d1, d2, d3, d4, d5, d6, d7] t (0, 0)) := by
  simp [World.setCell, Array.getElem?_modify, h]
theorem below_eight {w w' : World} {B g : Nat} (h : Below B w w') (hg : B ≤ g) (d0 d1 d2 d3 d4 d5 d6 d7 : Value) : Below B w ((((((((w'.setCell ⟨g, 0, none⟩ d0).setCell ⟨g, 1, none⟩ d1).setCell ⟨g, 2, none⟩ d2).setCell ⟨g, 3, none⟩ d3).setCell ⟨g, 4, none⟩ d4).setCell ⟨g, 5, none⟩ d5).setCell ⟨g, 6, none⟩ d6).setCell ⟨g, 7, none⟩ d7) :=
  (((((((h.setCell (p := ⟨g, 0, none⟩) hg _).setCell (p := ⟨g, 1, none⟩) hg _).setCell (p := ⟨g, 2, none⟩) hg _).setCell (p := ⟨g, 3, none⟩) hg _).setCell (p := ⟨g, 4, none⟩) hg _).setCell (p := ⟨g, 5, none⟩) hg _).setCell (p := ⟨g, 6, none⟩) hg _).setCell (p := ⟨g, 7, none⟩) hg _
theorem lies_set {α : Type} {f : α → Value} {w : World} {A : Option Addr} {g : Nat} {l : List α} (h : Lies f w A l) (hne : ∀ b o s, A = some ⟨b, o, s⟩ → 0 < l.length → b ≠ g) (i : Nat) (v : Value) : Lies f (w.setCell ⟨g, i, none⟩ v) A l := by
  intro j hj
  obtain ⟨b, off, rfl, hc⟩ := h j hj
  exact ⟨b, off, rfl, (cell_far (hne _ _ _ rfl (by omega)) v).trans hc⟩
theorem lies_eight {α : Type} {f : α → Value} {w : World} {A : Option Addr} {g : Nat} {l : List α} (h : Lies f w A l) (hne : ∀ b o s, A = some ⟨b, o, s⟩ → 0 < l.length → b ≠ g) (d0 d1 d2 d3 d4 d5 d6 d7 : Value) : Lies f ((((((((w.setCell ⟨g, 0, none⟩ d0).setCell ⟨g, 1, none⟩ d1).setCell ⟨g, 2, none⟩ d2).setCell ⟨g, 3, none⟩ d3).setCell ⟨g, 4, none⟩ d4).setCell ⟨g, 5, none⟩ d5).setCell ⟨g, 6, none⟩ d6).setCell ⟨g, 7, none⟩ d7) A l :=
  lies_set (lies_set (lies_set (lies_set (lies_set (lies_set (lies_set (lies_set h hne _ _) hne _ _) hne _ _) hne _ _) hne _ _) hne _ _) hne _ _) hne _ _
theorem u16_of (M : Nat) (h : M < 65536) : ∃ U : UInt16, U.toNat = M ∧ UInt16.ofNat M = U ∧ IntKind.u16.wrap (M : Int) = (U.toNat : Int) := by
  refine ⟨UInt16.ofNat M, ?_, rfl, ?_⟩
  · rw [UInt16.toNat_ofNat']; omega
  · rw [UInt16.toNat_ofNat', IntWalk.u16_in _ (by omega)]; congr 1; omega
theorem far_eight {w : World} {g : Nat} {a0 a1 a2 a3 : Int} {A1 A2 : Option Addr} {n1 c1 n2 c2 : Nat} {e0 e1 : Int} {t : TypeId} {B : Option Addr} {l : List UInt8} (hg : w.heap[g]? = some (.cells #[.int .i64 a0, .int .i64 a1, .int .i64 a2, .int .i64 a3, .slice A1 n1 c1, .slice A2 n2 c2, .int .u16 e0, .int .u16 e1] t (0, 0))) (h : Lies u8v w B l) : ∀ b o s, B = some ⟨b, o, s⟩ → 0 < l.length → b ≠ g := by
  rintro b o s rfl h0 rfl
  obtain ⟨b', o', e, hc⟩ := h 0 h0
  cases e
  rw [cell_of_row w _ _ _ _ _ hg] at hc
  generalize o + 0 = i at hc
  rcases i with _ | _ | _ | _ | _ | _ | _ | _ | i <;> simp [u8v] at hc
theorem lies_low {α : Type} {f : α → Value} {w w' : World} {A : Option Addr} {B : Nat} {l : List α} (h : Lies f w A l) (hlt : ∀ b o s, A = some ⟨b, o, s⟩ → 0 < l.length → b < B) (hb : Below B w w') : Lies f w' A l := by
  intro j hj
  obtain ⟨b, off, rfl, hc⟩ := h j hj
  exact ⟨b, off, rfl, (World.cell?_of_block (w := w) (a := ⟨b, off + j, none⟩) (hb.block b (hlt _ _ _ rfl (by omega)))).trans hc⟩
theorem own_set {w : World} {B e k n g i : Nat} {v : Value} {xs : List Value} (h : w.ownsRow B e k v n xs) (hg : g < B) (x : Value) : (w.setCell ⟨g, i, none⟩ x).ownsRow B e k v n xs := by
  refine ⟨h.1, ?_⟩
  rcases h.2 with h' | ⟨g', cap, cur, rfl, hbg, hgg, rest⟩
  · exact .inl h'
  · exact .inr ⟨g', cap, cur, rfl, hbg, row_set_far hgg (by omega) x, rest⟩
theorem half_pow (x k : Nat) : x / 2 ^ (k + 1) = x / 2 ^ k / 2 := by rw [Nat.pow_succ, Nat.div_div_eq_div_mul]
theorem half_beq (x : Nat) : ((x : Int) % 2 == 1) = decide (x % 2 = 1) := by
  rcases Nat.mod_two_eq_zero_or_one x with h | h
  · rw [h, beq_eq_false_iff_ne.2 (by omega)]; rfl
  · rw [h, beq_iff_eq.2 (by omega)]; rfl
theorem Word.bitsOf_succ' (b : List UInt8) (j : Nat) : Word.bitsOf b (j + 1) = Word.bitsOf b j ++ [Word.bitAt b j] := by
  unfold Word.bitsOf
  rw [List.range_succ, List.map_append, List.map_cons, List.map_nil]
end Go.Proofs.YtlgmjnjhdamknaaGreat
