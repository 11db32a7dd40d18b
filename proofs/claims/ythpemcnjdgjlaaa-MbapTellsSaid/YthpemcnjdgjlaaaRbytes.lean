/-
  The document's own Bytes of layer 4, walked.
-/
import Derived.Test.YthpemcnjdgjlaaaNum
import Derived.Deep.RegionLaw
namespace Go.Proofs.Ythpemcnjdgjlaaa
open Go.RowKit

set_option maxRecDepth 100000 in
set_option maxHeartbeats 400000 in
theorem rbytes4_any (t : UInt16) (u : UInt8) (A : Option Addr) (n c : Nat) (p : List UInt8) (hn : p.length = n) (hm : n ≤ 60000) (w : World) (hb : Lies u8v w A p) :
    Calls Try.prog 8 #[.agg #[u16v t, u8v u, .slice A n c]] w (BytesPost w t u p) := by
  by_cases h0 : n = 0
  · have HC := Lib.hid (Mb.codeP_none p (by omega))
    have h0' : ((n : Int) == 0) = true := by rw [beq_iff_eq]; omega
    clear hn hb h0
    go_enter Try.func8, Try.ntmps8
    go_wp2
    go_ret2
    exact BytesPost.bad _ _ _ _ _ 3 HC.out (by omega) ((Below.refl _ _).alloc (Nat.le_refl _) _)
  · have h0' : ((n : Int) == 0) = false := by rw [beq_eq_false_iff_ne]; omega
    by_cases h1 : 253 < n
    · have HC := Lib.hid (Mb.codeP_many p (by omega))
      have h1' : (253 : Int) < n := by omega
      clear hn hb h0 h1
      go_enter Try.func8, Try.ntmps8
      go_wp2
      go_ret2
      exact BytesPost.bad _ _ _ _ _ 4 HC.out (by omega) ((Below.refl _ _).alloc (Nat.le_refl _) _)
    · have HC := Lib.hid (Mb.codeP_good p (by omega) (by omega))
      have h1' : ¬ (253 : Int) < n := by omega
      have HN := Lib.hid hn
      have HM := Lib.hid (head_map t u (n + 1) (by omega))
      have ht := t.toNat_lt
      unfold u16v
      clear hn h0
      go_enter Try.func8, Try.ntmps8
      go_wp2_with (at_builtin; go_must (refine wpList_append_lies kit8 one8 _ rfl (.tmp 30) (.tmp 32) rfl w.heap.size _ 7 (Mb.head t u (n + 1)) rfl (own_lit u8v (w.alloc (.cells #[.int .u16 (t.toNat : Int), u8v u, .slice A n c] _)) #[.int .u8 ((t.toNat : Int) / 256), .int .u8 ((t.toNat : Int) % 256), .int .u8 0, .int .u8 0, .int .u8 (((n : Int) + 1) / 256), .int .u8 (((n : Int) + 1) % 256), u8v u] _ _ _ 7 (Mb.head t u (n + 1)) (by rw [HM.out]; rfl) rfl (by simp) (by simp) (by unfold maxLen; omega)) A n c p rfl HN.out ((hb.alloc _).alloc _) (by omega) (by unfold maxLen; omega) (by simp; omega) ?_; intro A2 c2 w2 hown2 _ hb2))
      go_ret2
      exact BytesPost.good _ _ _ _ _ A2 (7 + n) c2 HC.out (by have := HN.out; omega) (by have := HN.out; subst this; exact hown2) ((((Below.refl _ w).alloc (Nat.le_refl _) _).alloc (by simp) _).trans hb2)
end Go.Proofs.Ythpemcnjdgjlaaa
