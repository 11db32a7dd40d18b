/-
  What the landed rtu says of faults: fit, number; bytes.Equal; join of two parts.
-/
import Derived.Test.YtlabjopmimnifaaIs
import Derived.Test.YtlabjopmimnifaaBackM
import Derived.Laws.IdiomStrings
namespace Go.Proofs.Ytlabjopmimnifaa
open Go.RowKit

/-- A fault that wraps a number. -/
abbrev faultV (s : ByteArray) (j : Int) : Value := .iface 53 (.agg #[.string s, .iface 26 (.int .i64 j)])

theorem number_nil (w : World) : Calls Try.prog 15 #[.nilIface] w fun e w' => e = .returned (.int .i64 0) ∧ w' = w := by
  go_enter Try.func15, Try.ntmps15
  go_wp2_with (first
    | (go_at_call 22; refine (is_nil _ _).mono ?_; rintro e w2 ⟨rfl, rfl⟩))
  go_ret
  exact ⟨rfl, rfl⟩

theorem number_fault (s : ByteArray) (j : Int) (hj : j = 3 ∨ j = 4 ∨ j = 6) (w : World) :
    Calls Try.prog 15 #[faultV s j] w fun e w' => e = .returned (.int .i64 j) ∧ Below w.heap.size w w' := by
  rcases hj with rfl | rfl | rfl
  · go_enter Try.func15, Try.ntmps15
    go_wp2_with (first
      | (go_at_call 22; refine (is_wrapped s 3 3 true rfl _).mono ?_; rintro e w2 ⟨rfl, h2⟩))
    go_ret
    exact ⟨rfl, h2⟩
  · go_enter Try.func15, Try.ntmps15
    go_wp2_with fail
    refine (is_wrapped s 4 3 false rfl _).mono ?_
    rintro e w2 ⟨rfl, h2⟩
    go_wp2_with fail
    refine (is_wrapped s 4 4 true rfl _).mono ?_
    rintro e w3 ⟨rfl, h3⟩
    go_wp2_with fail
    go_ret
    exact ⟨rfl, h2.trans (h3.mono h2.size)⟩
  · go_enter Try.func15, Try.ntmps15
    go_wp2_with fail
    refine (is_wrapped s 6 3 false rfl _).mono ?_
    rintro e w2 ⟨rfl, h2⟩
    go_wp2_with fail
    refine (is_wrapped s 6 4 false rfl _).mono ?_
    rintro e w3 ⟨rfl, h3⟩
    go_wp2_with fail
    refine (is_wrapped s 6 6 true rfl _).mono ?_
    rintro e w4 ⟨rfl, h4⟩
    go_wp2_with fail
    go_ret
    exact ⟨rfl, (h2.trans (h3.mono h2.size)).trans (h4.mono (Nat.le_trans h2.size h3.size))⟩

theorem fit_few (s : ByteArray) (n l m : Int) (h : n < l) (w : World) :
    Calls Try.prog 14 #[.string s, .int .i64 n, .int .i64 l, .int .i64 m] w fun e w' => e = .returned (faultV s 3) ∧ w' = w := by
  go_enter Try.func14, Try.ntmps14
  go_wp2_with fail
  go_ret
  exact ⟨rfl, rfl⟩
theorem fit_many (s : ByteArray) (n l m : Int) (h1 : ¬ n < l) (h : m < n) (w : World) :
    Calls Try.prog 14 #[.string s, .int .i64 n, .int .i64 l, .int .i64 m] w fun e w' => e = .returned (faultV s 4) ∧ w' = w := by
  go_enter Try.func14, Try.ntmps14
  go_wp2_with fail
  go_ret
  exact ⟨rfl, rfl⟩
theorem fit_good (s : ByteArray) (n l m : Int) (h1 : ¬ n < l) (h : ¬ m < n) (w : World) :
    Calls Try.prog 14 #[.string s, .int .i64 n, .int .i64 l, .int .i64 m] w fun e w' => e = .returned .nilIface ∧ w' = w := by
  go_enter Try.func14, Try.ntmps14
  go_wp2_with fail
  go_ret
  exact ⟨rfl, rfl⟩

/-- 'string(b)' of what lies so. -/
theorem conv_lies (w : World) (A : Option Addr) (n c : Nat) (l : List UInt8) (hn : l.length = n) (h : Lies u8v w A l) :
    (convert 22 9 (.slice A n c)).run Try.prog w = .ok (.string ⟨l.toArray⟩) w := by
  subst hn
  rcases Nat.eq_zero_or_pos l.length with h0 | h0
  · obtain rfl : l = [] := List.eq_nil_of_length_eq_zero h0
    show (convert 22 9 (.slice A 0 c)).run Try.prog w = _
    rw [run_convert_bytes_string w _ _ 5 A 0 c Try.underlying22 Try.underlying5 Try.underlying9]
    cases A <;> simp [Conv.bytesToString, loadCells]
    all_goals rfl
  · obtain ⟨b, off, rfl, _, hc⟩ := h.at_ h0
    refine run_convert_bytes_back w _ _ 5 _ c l Try.underlying22 Try.underlying5 Try.underlying9 fun j hj => ?_
    have hadd : (⟨b, off, none⟩ : Addr).add j = ⟨b, off + j, none⟩ := by unfold Addr.add; split <;> simp_all
    rw [hadd]
    exact hc j hj

theorem bequal_any (A B : Option Addr) (n m c d : Nat) (p q : List UInt8) (hn : p.length = n) (hm : q.length = m) (w : World) (h1 : Lies u8v w A p) (h2 : Lies u8v w B q) :
    Calls Try.prog 21 #[.slice A n c, .slice B m d] w fun e w' => e = .returned (.bool (p == q)) ∧ w' = w := by
  have k1 := conv_lies w A n c p hn h1
  have k2 := conv_lies w B m d q hm h2
  have e1 : (binOp .eql 9 (.string ⟨p.toArray⟩) (.string ⟨q.toArray⟩)).run Try.prog w = .ok (.bool (p == q)) w := by
    rw [binOp_string_eql]
    simp [Sem.run_pure, ByteArray.toList_eq]
  clear hn hm h1 h2
  go_enter Try.func21, Try.ntmps21
  go_wp2_with fail
  go_ret
  exact ⟨rfl, rfl⟩
end Go.Proofs.Ytlabjopmimnifaa
