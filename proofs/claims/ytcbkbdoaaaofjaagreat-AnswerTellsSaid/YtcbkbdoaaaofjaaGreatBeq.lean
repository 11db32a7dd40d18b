
/-
  bytes.Equal over bytes that lie somewhere; a word of bytes.
-/
import Derived.Test.YtcbkbdoaaaofjaaGreatWords
import Derived.Laws.IdiomStrings
namespace Go.Proofs.YtcbkbdoaaaofjaaGreat
open Go.RowKit

/-- 'string(b)' of what lies so. -/
theorem conv_lies (w : World) (A : Option Addr) (n c : Nat) (l : List UInt8) (hn : l.length = n) (h : Lies u8v w A l) :
    (convert 31 9 (.slice A n c)).run Tryz.prog w = .ok (.string ⟨l.toArray⟩) w := by
  subst hn
  rcases Nat.eq_zero_or_pos l.length with h0 | h0
  · obtain rfl : l = [] := List.eq_nil_of_length_eq_zero h0
    show (convert 31 9 (.slice A 0 c)).run Tryz.prog w = _
    rw [run_convert_bytes_string w _ _ 5 A 0 c Tryz.underlying31 Tryz.underlying5 Tryz.underlying9]
    cases A <;> simp [Conv.bytesToString, loadCells]
    all_goals rfl
  · obtain ⟨b, off, rfl, _, hc⟩ := h.at_ h0
    refine run_convert_bytes_back w _ _ 5 _ c l Tryz.underlying31 Tryz.underlying5 Tryz.underlying9 fun j hj => ?_
    have hadd : (⟨b, off, none⟩ : Addr).add j = ⟨b, off + j, none⟩ := by unfold Addr.add; split <;> simp_all
    rw [hadd]
    exact hc j hj

theorem bequal_any (A B : Option Addr) (n m c d : Nat) (p q : List UInt8) (hn : p.length = n) (hm : q.length = m) (w : World) (h1 : Lies u8v w A p) (h2 : Lies u8v w B q) :
    Calls Tryz.prog 138 #[.slice A n c, .slice B m d] w fun e w' => e = .returned (.bool (p == q)) ∧ w' = w := by
  have k1 := conv_lies w A n c p hn h1
  have k2 := conv_lies w B m d q hm h2
  have e1 : (binOp .eql 9 (.string ⟨p.toArray⟩) (.string ⟨q.toArray⟩)).run Tryz.prog w = .ok (.bool (p == q)) w := by
    rw [binOp_string_eql]
    simp [Sem.run_pure, ByteArray.toList_eq]
  clear hn hm h1 h2
  go_enter Tryz.func138, Tryz.ntmps138
  go_wp2_with fail
  go_ret
  exact ⟨rfl, rfl⟩

end Go.Proofs.YtcbkbdoaaaofjaaGreat
