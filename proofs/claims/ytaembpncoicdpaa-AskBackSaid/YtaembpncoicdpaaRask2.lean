
/-
  Requests: behind, Same of the document's layer 6, walked.
-/
import Derived.Test.YtaembpncoicdpaaRask
namespace Go.Proofs.Ytaembpncoicdpaa
open Go.RowKit

theorem u16_eq (x y : UInt16) : ((x.toNat : Int) == (y.toNat : Int)) = (x == y) := by
  by_cases h : x = y
  · subst h; simp
  · rw [beq_eq_false_iff_ne.2 h, beq_eq_false_iff_ne]
    intro e
    exact h (UInt16.toNat_inj.1 (by exact_mod_cast e))

set_option maxRecDepth 100000 in
set_option maxHeartbeats 4000000 in
theorem rsame6_any (a b : Ask) (h k h' k' : Option Addr × Nat × Nat) (w : World) (ha : AskIn w a h k) (hb : AskIn w b h' k') :
    Calls Try.prog 12 #[askV a h k, askV b h' k'] w fun e w' => e = .returned (.bool (Ak.same a b)) ∧ Below w.heap.size w w' := by
  obtain ⟨code, addr, count, to, words, bits, and_, or_⟩ := a
  obtain ⟨code', addr', count', to', words', bits', and', or'⟩ := b
  obtain ⟨hA, hn, hc⟩ := h
  obtain ⟨kA, kn, kc⟩ := k
  obtain ⟨hA', hn', hc'⟩ := h'
  obtain ⟨kA', kn', kc'⟩ := k'
  obtain ⟨V, hV⟩ : ∃ V, Ak.same ⟨code, addr, count, to, words, bits, and_, or_⟩ ⟨code', addr', count', to', words', bits', and', or'⟩ = V := ⟨_, rfl⟩
  have HF : Hid (V = (code == code' && addr == addr' && count == count' && to == to' && and_ == and' && or_ == or' && words == words' && bits == bits')) := Lib.hid (by rw [← hV]; rfl)
  rw [hV]
  have n1 := u16_eq and_ and'
  have n2 := u16_eq or_ or'
  have m1 : hn ≤ maxLen := Nat.le_trans ha.hc ha.hm
  have m2 : kn ≤ maxLen := Nat.le_trans ha.kc ha.km
  have e1 : words.length = hn := ha.hn
  have e2 : bits.length = kn := ha.kn
  have e3 : words'.length = hn' := hb.hn
  have e4 : bits'.length = kn' := hb.kn
  have l1 : Lies u16v w hA words := ha.hl
  have l2 : Lies bitv w kA bits := ha.kl
  have l3 : Lies u16v w hA' words' := hb.hl
  have l4 : Lies bitv w kA' bits' := hb.kl
  have E := Lib.hid (And.intro e1 (And.intro e2 (And.intro e3 e4)))
  clear hV ha hb e1 e2 e3 e4
  unfold askV
  cases hw : (words == words') with
  | false =>
    rw [hw] at HF
    go_enter Try.func12, Try.ntmps12
    go_wp2_with (first | (go_at_call 21; (refine (rsame16_any hA hA' hn hn' hc hc' words words' E.out.1 E.out.2.2.1 m1 _ ((l1.alloc _).alloc _) ((l3.alloc _).alloc _)).mono ?_); rintro e w2 ⟨rfl, q, rfl⟩; rw [hw]) | fail)
    all_goals go_ret
    all_goals refine ⟨?_, by first | exact (((Below.refl _ w).alloc (Nat.le_refl _) _).alloc (by simp) _) | exact drewN_below (((Below.refl _ w).alloc (Nat.le_refl _) _).alloc (by simp) _) _⟩
    all_goals rw [HF.out]
    all_goals congr 2
    all_goals simp_all
  | true =>
    rw [hw] at HF
    cases hbt : (bits == bits') with
    | false =>
      rw [hbt] at HF
      go_enter Try.func12, Try.ntmps12
      go_wp2_with (first | (go_at_call 21; (refine (rsame16_any hA hA' hn hn' hc hc' words words' E.out.1 E.out.2.2.1 m1 _ ((l1.alloc _).alloc _) ((l3.alloc _).alloc _)).mono ?_); rintro e w2 ⟨rfl, q, rfl⟩; rw [hw]) | (go_at_call 22; (refine (rsameb_any kA kA' kn kn' kc kc' bits bits' E.out.2.1 E.out.2.2.2 m2 _ (((l2.alloc _).alloc _).drewN q) (((l4.alloc _).alloc _).drewN q)).mono ?_); rintro e w3 ⟨rfl, q2, rfl⟩; rw [hbt]) | fail)
      all_goals go_ret
      all_goals refine ⟨?_, by first | exact (((Below.refl _ w).alloc (Nat.le_refl _) _).alloc (by simp) _) | exact drewN_below (((Below.refl _ w).alloc (Nat.le_refl _) _).alloc (by simp) _) _⟩
      all_goals rw [HF.out]
      all_goals congr 2
      all_goals simp_all
    | true =>
      rw [hbt] at HF
      go_enter Try.func12, Try.ntmps12
      go_wp2_with (first | (go_at_call 21; (refine (rsame16_any hA hA' hn hn' hc hc' words words' E.out.1 E.out.2.2.1 m1 _ ((l1.alloc _).alloc _) ((l3.alloc _).alloc _)).mono ?_); rintro e w2 ⟨rfl, q, rfl⟩; rw [hw]) | (go_at_call 22; (refine (rsameb_any kA kA' kn kn' kc kc' bits bits' E.out.2.1 E.out.2.2.2 m2 _ (((l2.alloc _).alloc _).drewN q) (((l4.alloc _).alloc _).drewN q)).mono ?_); rintro e w3 ⟨rfl, q2, rfl⟩; rw [hbt]) | fail)
      all_goals go_ret
      all_goals refine ⟨?_, by first | exact (((Below.refl _ w).alloc (Nat.le_refl _) _).alloc (by simp) _) | exact drewN_below (((Below.refl _ w).alloc (Nat.le_refl _) _).alloc (by simp) _) _⟩
      all_goals rw [HF.out]
      all_goals congr 2
      all_goals simp_all
end Go.Proofs.Ytaembpncoicdpaa
