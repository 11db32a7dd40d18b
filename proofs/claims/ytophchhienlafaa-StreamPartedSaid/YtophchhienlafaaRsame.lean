/-
  The document's own Same of layer 4, walked.
-/
import Derived.Test.YtophchhienlafaaMb
import Derived.Deep.RegionLaw
namespace Go.Proofs.Ytophchhienlafaa
open Go.RowKit

set_option maxRecDepth 100000 in
set_option maxHeartbeats 400000 in
theorem rsame4_any (t s : UInt16) (u v : UInt8) (A B : Option Addr) (n m c d : Nat) (p q : List UInt8) (hn : p.length = n) (hm : q.length = m) (hmn : n ≤ maxLen) (w : World) (h1 : Lies u8v w A p) (h2 : Lies u8v w B q) :
    Calls Try.prog 19 #[.agg #[u16v t, u8v u, .slice A n c], .agg #[u16v s, u8v v, .slice B m d]] w fun e w' => e = .returned (.bool (Mb.same t u p s v q)) ∧ Below w.heap.size w w' := by
  have HN := Lib.hid hn
  have HM := Lib.hid hm
  clear hn hm
  by_cases hts : t = s
  · subst hts
    by_cases huv : u = v
    · subst huv
      have HS : Hid (Mb.same t u p t u q = (p == q)) := Lib.hid (by unfold Mb.same; simp)
      go_enter Try.func19, Try.ntmps19
      go_wp2_with fail
      refine (rsame8_any A B n m c d p q HN.out HM.out hmn _ ((h1.alloc _).alloc _) ((h2.alloc _).alloc _)).mono ?_
      rintro e w2 ⟨rfl, k, rfl⟩
      go_wp2_with fail
      go_ret
      exact ⟨by rw [HS.out]; rfl, drewN_below (((Below.refl _ w).alloc (Nat.le_refl _) _).alloc (by simp) _) k⟩
    · have HS : Hid (Mb.same t u p t v q = false) := Lib.hid (by unfold Mb.same; rw [beq_eq_false_iff_ne.2 huv, Bool.and_false]; rfl)
      have hne : ((u.toNat : Int) == (v.toNat : Int)) = false := by
        rw [beq_eq_false_iff_ne]
        intro e
        exact huv (UInt8.toNat_inj.1 (by exact_mod_cast e))
      unfold u8v
      clear huv
      go_enter Try.func19, Try.ntmps19
      go_wp2_with fail
      go_ret
      exact ⟨by rw [HS.out]; rfl, ((Below.refl _ w).alloc (Nat.le_refl _) _).alloc (by simp) _⟩
  · have HS : Hid (Mb.same t u p s v q = false) := Lib.hid (by unfold Mb.same; rw [beq_eq_false_iff_ne.2 hts]; rfl)
    have hne : ((t.toNat : Int) == (s.toNat : Int)) = false := by
      rw [beq_eq_false_iff_ne]
      intro e
      exact hts (UInt16.toNat_inj.1 (by exact_mod_cast e))
    unfold u16v
    clear hts
    go_enter Try.func19, Try.ntmps19
    go_wp2_with fail
    go_ret
    exact ⟨by rw [HS.out]; rfl, ((Below.refl _ w).alloc (Nat.le_refl _) _).alloc (by simp) _⟩
end Go.Proofs.Ytophchhienlafaa
