
/-
  Requests: guess of the document's layer 6, walked (trial).
-/
import Derived.Test.YtcbkbdoaaaofjaaGreatRask
import Derived.Deep.RegionHeld3
import Derived.Deep.DrawnRows
namespace Go.Proofs.YtcbkbdoaaaofjaaGreat
open Go.RowKit

attribute [local go_sem ↓] Go.wp_at_zero Go.wp_at_succ

theorem stored_eight {w : World} {g : Nat} {c0 c1 c2 c3 c4 c5 c6 c7 : Value} {t : TypeId} (h : w.heap[g]? = some (.cells #[c0, c1, c2, c3, c4, c5, c6, c7] t (0, 0))) (d0 d1 d2 d3 d4 d5 d6 d7 : Value) :
    ((((((((w.setCell ⟨g, 0, none⟩ d0).setCell ⟨g, 1, none⟩ d1).setCell ⟨g, 2, none⟩ d2).setCell ⟨g, 3, none⟩ d3).setCell ⟨g, 4, none⟩ d4).setCell ⟨g, 5, none⟩ d5).setCell ⟨g, 6, none⟩ d6).setCell ⟨g, 7, none⟩ d7).heap[g]? = some (.cells #[d0, d1, d2, d3, d4, d5, d6, d7] t (0, 0)) := by
  simp [World.setCell, Array.getElem?_modify, h]
theorem below_eight {w w' : World} {B g : Nat} (h : Below B w w') (hg : B ≤ g) (d0 d1 d2 d3 d4 d5 d6 d7 : Value) : Below B w ((((((((w'.setCell ⟨g, 0, none⟩ d0).setCell ⟨g, 1, none⟩ d1).setCell ⟨g, 2, none⟩ d2).setCell ⟨g, 3, none⟩ d3).setCell ⟨g, 4, none⟩ d4).setCell ⟨g, 5, none⟩ d5).setCell ⟨g, 6, none⟩ d6).setCell ⟨g, 7, none⟩ d7) :=
  (((((((h.setCell (p := ⟨g, 0, none⟩) hg _).setCell (p := ⟨g, 1, none⟩) hg _).setCell (p := ⟨g, 2, none⟩) hg _).setCell (p := ⟨g, 3, none⟩) hg _).setCell (p := ⟨g, 4, none⟩) hg _).setCell (p := ⟨g, 5, none⟩) hg _).setCell (p := ⟨g, 6, none⟩) hg _).setCell (p := ⟨g, 7, none⟩) hg _
theorem lies_set {α : Type} {f : α → Value} {w : World} {A : Option Addr} {g : Nat} {l : List α} (h : Lies f w A l) (hne : ∀ b o s, A = some ⟨b, o, s⟩ → 0 < l.length → b ≠ g) (i : Nat) (v : Value) : Lies f (w.setCell ⟨g, i, none⟩ v) A l := by
  intro j hj
  obtain ⟨b, off, rfl, hc⟩ := h j hj
  exact ⟨b, off, rfl, (cell_far (hne _ _ _ rfl (by omega)) v).trans hc⟩
theorem lies_eight {α : Type} {f : α → Value} {w : World} {A : Option Addr} {g : Nat} {l : List α} (h : Lies f w A l) (hne : ∀ b o s, A = some ⟨b, o, s⟩ → 0 < l.length → b ≠ g) (d0 d1 d2 d3 d4 d5 d6 d7 : Value) : Lies f ((((((((w.setCell ⟨g, 0, none⟩ d0).setCell ⟨g, 1, none⟩ d1).setCell ⟨g, 2, none⟩ d2).setCell ⟨g, 3, none⟩ d3).setCell ⟨g, 4, none⟩ d4).setCell ⟨g, 5, none⟩ d5).setCell ⟨g, 6, none⟩ d6).setCell ⟨g, 7, none⟩ d7) A l :=
  lies_set (lies_set (lies_set (lies_set (lies_set (lies_set (lies_set (lies_set h hne _ _) hne _ _) hne _ _) hne _ _) hne _ _) hne _ _) hne _ _) hne _ _
theorem u16_of (M : Nat) (h : M < 65536) : ∃ U : UInt16, U.toNat = M ∧ UInt16.ofNat M = U ∧ IntKind.u16.wrap (M : Int) = (U.toNat : Int) := by
  refine ⟨UInt16.ofNat M, ?_, rfl, ?_⟩
  · rw [UInt16.toNat_ofNat']; omega
  · rw [UInt16.toNat_ofNat', IntWalk.u16_in _ (by omega)]; congr 1; omega
theorem far_eight {w : World} {g : Nat} {a0 a1 a2 a3 : Int} {A1 A2 : Option Addr} {n1 c1 n2 c2 : Nat} {e0 e1 : Int} {t : TypeId} {B : Option Addr} {l : List UInt8} (hg : w.heap[g]? = some (.cells #[.int .i64 a0, .int .i64 a1, .int .i64 a2, .int .i64 a3, .slice A1 n1 c1, .slice A2 n2 c2, .int .u16 e0, .int .u16 e1] t (0, 0))) (h : Lies u8v w B l) : ∀ b o s, B = some ⟨b, o, s⟩ → 0 < l.length → b ≠ g := by
  rintro b o s rfl h0 rfl
  obtain ⟨b', o', e, hc⟩ := h 0 h0
  cases e
  rw [cell_of_row w _ _ _ _ _ hg] at hc
  generalize o + 0 = i at hc
  rcases i with _ | _ | _ | _ | _ | _ | _ | _ | i <;> simp [u8v] at hc
theorem lies_low {α : Type} {f : α → Value} {w w' : World} {A : Option Addr} {B : Nat} {l : List α} (h : Lies f w A l) (hlt : ∀ b o s, A = some ⟨b, o, s⟩ → 0 < l.length → b < B) (hb : Below B w w') : Lies f w' A l := by
  intro j hj
  obtain ⟨b, off, rfl, hc⟩ := h j hj
  exact ⟨b, off, rfl, (World.cell?_of_block (w := w) (a := ⟨b, off + j, none⟩) (hb.block b (hlt _ _ _ rfl (by omega)))).trans hc⟩
theorem own_set {w : World} {B e k n g i : Nat} {v : Value} {xs : List Value} (h : w.ownsRow B e k v n xs) (hg : g < B) (x : Value) : (w.setCell ⟨g, i, none⟩ x).ownsRow B e k v n xs := by
  refine ⟨h.1, ?_⟩
  rcases h.2 with h' | ⟨g', cap, cur, rfl, hbg, hgg, rest⟩
  · exact .inl h'
  · exact .inr ⟨g', cap, cur, rfl, hbg, row_set_far hgg (by omega) x, rest⟩
theorem half_pow (x k : Nat) : x / 2 ^ (k + 1) = x / 2 ^ k / 2 := by rw [Nat.pow_succ, Nat.div_div_eq_div_mul]
theorem half_beq (x : Nat) : ((x : Int) % 2 == 1) = decide (x % 2 = 1) := by
  rcases Nat.mod_two_eq_zero_or_one x with h | h
  · rw [h, beq_eq_false_iff_ne.2 (by omega)]; rfl
  · rw [h, beq_iff_eq.2 (by omega)]; rfl
theorem Word.bitsOf_succ' (b : List UInt8) (j : Nat) : Word.bitsOf b (j + 1) = Word.bitsOf b j ++ [Word.bitAt b j] := by
  unfold Word.bitsOf
  rw [List.range_succ, List.map_append, List.map_cons, List.map_nil]
end Go.Proofs.YtcbkbdoaaaofjaaGreat

/-
  Requests: Parse, Large of the document's layer 6, walked.
-/
namespace Go.Proofs.YtcbkbdoaaaofjaaGreat
open Go.RowKit

/-- What Parse of layer 6 leaves. -/
def ParsePost (w : World) (b : List UInt8) (e : Ending) (w' : World) : Prop :=
  ∃ h k, e = .returned (.tuple #[askV (Ak.parse b).1 h k, .int .i64 ((Ak.parse b).2 : Nat)]) ∧ AskIn w' (Ak.parse b).1 h k ∧ Below w.heap.size w w'
theorem AskIn.zero (w : World) : AskIn w Ak.zero (none, 0, 0) (none, 0, 0) := ⟨rfl, Nat.le_refl _, Nat.zero_le _, Lies.nil _ _, rfl, Nat.le_refl _, Nat.zero_le _, Lies.nil _ _⟩
theorem ParsePost.none {w w' : World} {b : List UInt8} {k : Nat} (h : Ak.parse b = (Ak.zero, k)) (hb : Below w.heap.size w w') : ParsePost w b (.returned (.tuple #[askV Ak.zero (Option.none, 0, 0) (Option.none, 0, 0), .int .i64 (k : Int)])) w' :=
  ⟨(Option.none, 0, 0), (Option.none, 0, 0), by rw [h], by rw [h]; exact AskIn.zero _, hb⟩
theorem AskIn.eight {w : World} {a : Ask} {h k : Option Addr × Nat × Nat} {g : Nat} (x : AskIn w a h k) (hh : ∀ b o s, h.1 = some ⟨b, o, s⟩ → 0 < h.2.1 → b ≠ g) (hk : ∀ b o s, k.1 = some ⟨b, o, s⟩ → 0 < k.2.1 → b ≠ g) (d0 d1 d2 d3 d4 d5 d6 d7 : Value) : AskIn ((((((((w.setCell ⟨g, 0, none⟩ d0).setCell ⟨g, 1, none⟩ d1).setCell ⟨g, 2, none⟩ d2).setCell ⟨g, 3, none⟩ d3).setCell ⟨g, 4, none⟩ d4).setCell ⟨g, 5, none⟩ d5).setCell ⟨g, 6, none⟩ d6).setCell ⟨g, 7, none⟩ d7) a h k :=
  ⟨x.hn, x.hc, x.hm, lies_eight x.hl (fun b o s e h0 => hh b o s e (by rw [← x.hn]; exact h0)) _ _ _ _ _ _ _ _, x.kn, x.kc, x.km, lies_eight x.kl (fun b o s e h0 => hk b o s e (by rw [← x.kn]; exact h0)) _ _ _ _ _ _ _ _⟩

set_option maxRecDepth 100000 in
set_option maxHeartbeats 1000000 in
theorem rlarge_any (a : Ask) (h k : Option Addr × Nat × Nat) (w : World) (ha : AskIn w a h k) :
    Calls Tryz.prog 7 #[askV a h k] w fun e w' => e = .returned (.bool (decide (300 < a.words.length) || decide (3000 < a.bits.length))) ∧ Below w.heap.size w w' := by
  rw [ha.hn, ha.kn]
  obtain ⟨hA, hn, hc⟩ := h
  obtain ⟨kA, kn, kc⟩ := k
  have m1 : hn ≤ maxLen := Nat.le_trans ha.hc ha.hm
  have m2 : kn ≤ maxLen := Nat.le_trans ha.kc ha.km
  clear ha
  unfold askV
  go_enter Tryz.func7, Tryz.ntmps7
  by_cases h1 : 300 < hn
  · have h1' : (300 : Int) < (hn : Int) := by omega
    go_wp2_with fail
    go_ret
    exact ⟨by (first | rfl | simp [h1]), (Below.refl _ w).alloc (Nat.le_refl _) _⟩
  · have h1' : ¬ (300 : Int) < (hn : Int) := by omega
    by_cases h2 : 3000 < kn
    · have h2' : (3000 : Int) < (kn : Int) := by omega
      go_wp2_with fail
      go_ret
      exact ⟨by (first | rfl | simp [h1, h2]), (Below.refl _ w).alloc (Nat.le_refl _) _⟩
    · have h2' : ¬ (3000 : Int) < (kn : Int) := by omega
      go_wp2_with fail
      go_ret
      exact ⟨by (first | rfl | simp [h1, h2]), (Below.refl _ w).alloc (Nat.le_refl _) _⟩

end Go.Proofs.YtcbkbdoaaaofjaaGreat
