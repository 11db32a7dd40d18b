
/-
  Requests: Parse, Large of the document's layer 6, walked.
-/
import Derived.Test.YtlgmjnjhdamknaaGreatGuess
namespace Go.Proofs.YtlgmjnjhdamknaaGreat
open Go.RowKit

/-- What Parse of layer 6 leaves. -/
def ParsePost (w : World) (b : List UInt8) (e : Ending) (w' : World) : Prop :=
  ∃ h k, e = .returned (.tuple #[askV (Ak.parse b).1 h k, .int .i64 ((Ak.parse b).2 : Nat)]) ∧ AskIn w' (Ak.parse b).1 h k ∧ Below w.heap.size w w'
theorem AskIn.zero (w : World) : AskIn w Ak.zero (none, 0, 0) (none, 0, 0) := ⟨rfl, Nat.le_refl _, Nat.zero_le _, Lies.nil _ _, rfl, Nat.le_refl _, Nat.zero_le _, Lies.nil _ _⟩
theorem ParsePost.none {w w' : World} {b : List UInt8} {k : Nat} (h : Ak.parse b = (Ak.zero, k)) (hb : Below w.heap.size w w') : ParsePost w b (.returned (.tuple #[askV Ak.zero (Option.none, 0, 0) (Option.none, 0, 0), .int .i64 (k : Int)])) w' :=
  ⟨(Option.none, 0, 0), (Option.none, 0, 0), by rw [h], by rw [h]; exact AskIn.zero _, hb⟩
theorem AskIn.eight {w : World} {a : Ask} {h k : Option Addr × Nat × Nat} {g : Nat} (x : AskIn w a h k) (hh : ∀ b o s, h.1 = some ⟨b, o, s⟩ → 0 < h.2.1 → b ≠ g) (hk : ∀ b o s, k.1 = some ⟨b, o, s⟩ → 0 < k.2.1 → b ≠ g) (d0 d1 d2 d3 d4 d5 d6 d7 : Value) : AskIn ((((((((w.setCell ⟨g, 0, none⟩ d0).setCell ⟨g, 1, none⟩ d1).setCell ⟨g, 2, none⟩ d2).setCell ⟨g, 3, none⟩ d3).setCell ⟨g, 4, none⟩ d4).setCell ⟨g, 5, none⟩ d5).setCell ⟨g, 6, none⟩ d6).setCell ⟨g, 7, none⟩ d7) a h k :=
  ⟨x.hn, x.hc, x.hm, lies_eight x.hl (fun b o s e h0 => hh b o s e (by rw [← x.hn]; exact h0)) _ _ _ _ _ _ _ _, x.kn, x.kc, x.km, lies_eight x.kl (fun b o s e h0 => hk b o s e (by rw [← x.kn]; exact h0)) _ _ _ _ _ _ _ _⟩

set_option maxRecDepth 100000 in
set_option maxHeartbeats 1000000 in
theorem rlarge_any (a : Ask) (h k : Option Addr × Nat × Nat) (w : World) (ha : AskIn w a h k) :
    Calls Tryz.prog 21 #[askV a h k] w fun e w' => e = .returned (.bool (decide (300 < a.words.length) || decide (3000 < a.bits.length))) ∧ Below w.heap.size w w' := by
  rw [ha.hn, ha.kn]
  obtain ⟨hA, hn, hc⟩ := h
  obtain ⟨kA, kn, kc⟩ := k
  have m1 : hn ≤ maxLen := Nat.le_trans ha.hc ha.hm
  have m2 : kn ≤ maxLen := Nat.le_trans ha.kc ha.km
  clear ha
  unfold askV
  go_enter Tryz.func21, Tryz.ntmps21
  by_cases h1 : 300 < hn
  · have h1' : (300 : Int) < (hn : Int) := by omega
    go_wp2_with fail
    go_ret
    exact ⟨by (first | rfl | simp [h1]), (Below.refl _ w).alloc (Nat.le_refl _) _⟩
  · have h1' : ¬ (300 : Int) < (hn : Int) := by omega
    by_cases h2 : 3000 < kn
    · have h2' : (3000 : Int) < (kn : Int) := by omega
      go_wp2_with fail
      go_ret
      exact ⟨by (first | rfl | simp [h1, h2]), (Below.refl _ w).alloc (Nat.le_refl _) _⟩
    · have h2' : ¬ (3000 : Int) < (kn : Int) := by omega
      go_wp2_with fail
      go_ret
      exact ⟨by (first | rfl | simp [h1, h2]), (Below.refl _ w).alloc (Nat.le_refl _) _⟩

end Go.Proofs.YtlgmjnjhdamknaaGreat
