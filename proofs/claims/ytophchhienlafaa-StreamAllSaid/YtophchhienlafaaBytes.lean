/-
  What the landed mbap.Bytes leaves.
-/
import Derived.Test.YtophchhienlafaaLay
namespace Go.Proofs.Ytophchhienlafaa
open Go.RowKit

set_option maxRecDepth 100000 in
set_option maxHeartbeats 400000 in
theorem bytes4_any (t : UInt16) (u : UInt8) (A : Option Addr) (n c : Nat) (p : List UInt8) (hn : p.length = n) (_ : n ≤ 60000) (w : World) (hb : Lies u8v w A p) :
    Calls Try.prog 14 #[.agg #[u16v t, u8v u, .slice A n c]] w (BytesPost w t u p) := by
  by_cases h0 : n = 0
  · have HC := Lib.hid (Mb.codeP_none p (by omega))
    subst h0
    clear hn hb
    go_enter Try.func14, Try.ntmps14
    go_wp2_with fail
    go_ret2
    exact BytesPost.bad _ _ _ _ _ 3 HC.out (by omega) ((Below.refl _ _).alloc (Nat.le_refl _) _)
  · by_cases h1 : 253 < n
    · have HC := Lib.hid (Mb.codeP_many p (by omega))
      have h0' : ¬ (n : Int) < 1 := by omega
      have h1' : (253 : Int) < n := by omega
      clear hn hb h0 h1
      go_enter Try.func14, Try.ntmps14
      go_wp2_with fail
      go_ret2
      exact BytesPost.bad _ _ _ _ _ 4 HC.out (by omega) ((Below.refl _ _).alloc (Nat.le_refl _) _)
    · have HC := Lib.hid (Mb.codeP_good p (by omega) (by omega))
      have h0' : ¬ (n : Int) < 1 := by omega
      have h1' : ¬ (253 : Int) < n := by omega
      have HN := Lib.hid hn
      clear hn
      go_enter Try.func14, Try.ntmps14
      go_wp2_with fail
      refine (lay_any t u A n c p HN.out (by omega) (by omega) _ (hb.alloc _)).mono ?_
      rintro e w2 ⟨B, d, rfl, hown, hbe⟩
      have hsz : w.heap.size ≤ (w.alloc (.cells #[u16v t, u8v u, .slice A n c] 45)).heap.size := by simp
      go_wp2_with fail
      go_ret2
      refine BytesPost.good _ _ _ _ _ B (n + 7) d HC.out (by rw [HN.out]) ?_ (((Below.refl _ w).alloc (Nat.le_refl _) _).trans (hbe.mono hsz))
      rw [HN.out]
      exact own_lower hown hsz
end Go.Proofs.Ytophchhienlafaa
