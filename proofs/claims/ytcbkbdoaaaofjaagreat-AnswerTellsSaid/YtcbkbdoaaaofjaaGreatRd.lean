
/-
  The landed answer: its reader: need, take, number, counted, just.
-/
import Derived.Test.YtcbkbdoaaaofjaaGreatBeq
import Derived.Test.YtcbkbdoaaaofjaaGreatKit
import Derived.WalkLawsBesides
import Derived.Deep.RegionHeld3
namespace Go.Proofs.YtcbkbdoaaaofjaaGreat
open Go.RowKit

/-- It gave up. -/
def Gave (e : Ending) : Prop := e = .panicked [{ v := .iface 37 (.int .i64 2), recovered := false }]
/-- What is left to be read, by the reader in the variable of block q. -/
def RdAt (w : World) (q : Nat) (b : List UInt8) : Prop :=
  ∃ A n c, w.heap[q]? = some (.cells #[.slice A n c] 71 (0, 0)) ∧ b.length = n ∧ n ≤ c ∧ c ≤ maxLen ∧ Lies u8v w A b
theorem row_one {w : World} {g : Nat} {a : Value} {t : TypeId} (h : w.heap[g]? = some (.cells #[a] t (0, 0))) : w.cell? ⟨g, 0, none⟩ = some a ∧ w.frozen? ⟨g, 0, none⟩ = false := by
  simp [World.cell?, World.frozen?, h]
theorem one_stored {w : World} {g : Nat} {a : Value} {t : TypeId} (h : w.heap[g]? = some (.cells #[a] t (0, 0))) (x : Value) : (w.setCell ⟨g, 0, none⟩ x).heap[g]? = some (.cells #[x] t (0, 0)) := by
  simp [World.setCell, Array.getElem?_modify, h]
theorem RdAt.far {w : World} {q : Nat} {b l : List UInt8} {A : Option Addr} (h : RdAt w q b) (hl : Lies u8v w A l) : ∀ b o s, A = some ⟨b, o, s⟩ → 0 < l.length → b ∉ [q] := by
  obtain ⟨A', n, c, hr, -⟩ := h
  refine far_row hr hl fun x i v hv => ?_
  rcases i with _ | i
  · simp at hv; subst hv; simp
  · simp at hv
theorem RdAt.lt {w : World} {q : Nat} {b : List UInt8} (h : RdAt w q b) : q < w.heap.size := by
  obtain ⟨A, n, c, hr, -⟩ := h
  exact row_lt hr
theorem RdAt.below {w w' : World} {q : Nat} {b : List UInt8} (h : RdAt w q b) (hb : Below w.heap.size w w') : RdAt w' q b := by
  obtain ⟨A, n, c, hr, h1, h2, h3, h4⟩ := h
  exact ⟨A, n, c, row_later hr hb, h1, h2, h3, h4.below hb (Nat.le_refl _)⟩
theorem RdAt.le {w : World} {q : Nat} {b : List UInt8} (h : RdAt w q b) : b.length ≤ 9223372036854775807 := by
  obtain ⟨A, n, c, hr, h1, h2, h3, h4⟩ := h
  unfold maxLen at h3
  omega
theorem RdAt.but {S : List Nat} {w w' : World} {q : Nat} {b : List UInt8} (h : RdAt w q b) (hb : But S w w') (hq : q ∉ S) (hf : ∀ A, Lies u8v w A b → ∀ b' o s, A = some ⟨b', o, s⟩ → 0 < b.length → b' ∉ S) : RdAt w' q b := by
  obtain ⟨A, n, c, hr, h1, h2, h3, h4⟩ := h
  exact ⟨A, n, c, row_but hr hb hq, h1, h2, h3, h4.but hb (hf A h4)⟩

theorem need_yes (w : World) : Calls Tryz.prog 42 #[.bool true] w fun e w' => e = .returned (.tuple #[]) ∧ w' = w := by
  go_enter Tryz.func42, Tryz.ntmps42
  go_wp2
  first | go_end0 | skip
  exact ⟨rfl, rfl⟩
theorem need_no (w : World) : Calls Tryz.prog 42 #[.bool false] w fun e w' => Gave e ∧ w' = w := by
  go_enter Tryz.func42, Tryz.ntmps42
  go_wp2
  exact ⟨rfl, rfl, rfl⟩

/-- What take leaves. -/
def TookPost (w : World) (q : Nat) (p r : List UInt8) (e : Ending) (w' : World) : Prop :=
  ∃ A c, e = .returned (.slice A p.length c) ∧ p.length ≤ c ∧ c ≤ maxLen ∧ Lies u8v w' A p ∧ RdAt w' q r ∧ But [q] w w'
def GavePost (w : World) (q : Nat) (e : Ending) (w' : World) : Prop := Gave e ∧ But [q] w w'

set_option maxRecDepth 100000 in
set_option maxHeartbeats 1000000 in
theorem take_no (q n : Nat) (b : List UInt8) (hn : b.length < n) (w : World) (h : RdAt w q b) :
    Calls Tryz.prog 114 #[.pointer (some ⟨q, 0, none⟩), .int .i64 n] w (GavePost w q) := by
  obtain ⟨A, m, c, hr, h1, h2, h3, h4⟩ := h
  obtain ⟨hc, hz⟩ := row_one hr
  have e1 : ¬ (n : Int) ≤ (m : Int) := by omega
  have e2 : decide ((n : Int) ≤ (m : Int)) = false := decide_eq_false e1
  clear h1 h2 h3 h4 hr hn
  go_enter Tryz.func114, Tryz.ntmps114
  go_wp2_with fail
  refine (need_no _).mono ?_
  rintro e w' ⟨he, rfl⟩
  obtain rfl := he
  go_wp2_with fail
  exact ⟨rfl, rfl, But.refl _ _⟩
theorem took_end {w : World} {q : Nat} {b : List UInt8} {A A2 : Option Addr} {n m c c' c2 : Nat} (hr : w.heap[q]? = some (.cells #[.slice A m c] 71 (0, 0))) (h1 : b.length = m) (h4 : Lies u8v w A b) (hn : n ≤ m) (hl : Lies u8v w A2 (b.drop n)) (d1 : m - n ≤ c2) (d2 : c2 ≤ maxLen) (d3 : n ≤ c') (d4 : c' ≤ maxLen) :
    TookPost w q (b.take n) (b.drop n) (.returned (.slice A n c')) (w.setCell ⟨q, 0, none⟩ (.slice A2 (m - n) c2)) := by
  have hR : ∀ (l : List UInt8) (B : Option Addr), Lies u8v w B l → ∀ b o s, B = some ⟨b, o, s⟩ → 0 < l.length → b ≠ q := by
    intro l B hB b o s e h0 hq
    refine far_row hr hB (fun x i v hv => ?_) b o s e h0 (by simp [hq])
    rcases i with _ | i
    · simp at hv; subst hv; simp
    · simp at hv
  have htl : (b.take n).length = n := by rw [List.length_take]; omega
  refine ⟨A, c', by rw [htl], by rw [htl]; exact d3, d4, ?_, ⟨A2, m - n, c2, one_stored hr _, by rw [List.length_drop, h1], d1, d2, ?_⟩, (But.refl _ _).setCell (p := ⟨q, 0, none⟩) (.inl (by simp)) _⟩
  · exact (h4.take n).but ((But.refl [q] w).setCell (p := ⟨q, 0, none⟩) (.inl (by simp)) _) (fun b o s e h0 hm => hR _ _ (h4.take n) b o s e h0 (by simpa using hm))
  · exact hl.but ((But.refl [q] w).setCell (p := ⟨q, 0, none⟩) (.inl (by simp)) _) (fun b o s e h0 hm => hR _ _ hl b o s e h0 (by simpa using hm))
theorem drop_past {w : World} {ab ao : Nat} {as_ : Option Nat} {b : List UInt8} (h : Lies u8v w (some ⟨ab, ao, as_⟩) b) (n : Nat) : Lies u8v w (some ((⟨ab, ao, as_⟩ : Addr).add n)) (b.drop n) := by
  rcases b with _ | ⟨x, r⟩
  · rw [List.drop_nil]; exact Lies.nil _ _
  · obtain ⟨b', o', e, _⟩ := h 0 (by simp)
    simp only [Option.some.injEq, Addr.mk.injEq] at e
    obtain ⟨rfl, rfl, rfl⟩ := e
    have hadd : (⟨ab, ao, none⟩ : Addr).add n = ⟨ab, ao + n, none⟩ := by unfold Addr.add; split <;> simp_all
    rw [hadd]
    exact h.drop n
set_option maxRecDepth 100000 in
set_option maxHeartbeats 1000000 in
theorem take_yes (q n : Nat) (b : List UInt8) (hn : n ≤ b.length) (w : World) (h : RdAt w q b) :
    Calls Tryz.prog 114 #[.pointer (some ⟨q, 0, none⟩), .int .i64 n] w (TookPost w q (b.take n) (b.drop n)) := by
  have hfar := fun (A : Option Addr) (l : List UInt8) (hl : Lies u8v w A l) => h.far hl
  obtain ⟨A, m, c, hr, h1, h2, h3, h4⟩ := h
  obtain ⟨hc, hz⟩ := row_one hr
  have hfar4 := hfar _ _ h4
  have e1 : (n : Int) ≤ (m : Int) := by omega
  have e2 : decide ((n : Int) ≤ (m : Int)) = true := decide_eq_true e1
  have htl : (b.take n).length = n := by rw [List.length_take]; omega
  have hlt := row_lt hr
  have HR := Lib.hid hr
  have H1 := Lib.hid h1
  have H4 := Lib.hid h4
  have HF := Lib.hid hfar4
  have HM := Lib.hid h3
  unfold maxLen at h3
  have hmc : (m : Int) ≤ (c : Int) := by omega
  have hnc : (n : Int) ≤ (c : Int) := by omega
  clear h1 h4 hr hn hfar hfar4
  rcases A with _ | ⟨ab, ao, as_⟩
  · have hm0 : m = 0 := by
      have h5 := H1.out
      rcases b with _ | ⟨x, r⟩
      · simpa using h5.symm
      · obtain ⟨_, _, g, _⟩ := H4.out 0 (by simp)
        cases g
    subst hm0
    obtain rfl : n = 0 := by omega
    clear hmc
    go_enter Tryz.func114, Tryz.ntmps114
    go_wp2_with fail
    refine (need_yes _).mono ?_
    rintro e w' ⟨rfl, rfl⟩
    go_wp2_with fail
    go_ret
    exact took_end (A := none) (A2 := none) HR.out H1.out H4.out (Nat.le_refl _) (by have := H4.out; exact fun j hj => absurd hj (by have := H1.out; rw [List.length_drop]; omega)) (by omega) (by unfold maxLen; omega) (by omega) HM.out
  · clear hmc
    go_enter Tryz.func114, Tryz.ntmps114
    go_wp2_with fail
    refine (need_yes _).mono ?_
    rintro e w' ⟨rfl, rfl⟩
    go_wp2_with fail
    · obtain rfl : c = n := by omega
      have HD : Hid (Lies u8v w' (some ⟨ab, ao, as_⟩) (b.drop c)) := Lib.hid (by have h5 := H1.out; rw [List.drop_eq_nil_of_le (by omega)]; exact Lies.nil _ _)
      go_ret
      exact took_end HR.out H1.out H4.out (by omega) HD.out (by omega) (by unfold maxLen; omega) (by omega) HM.out
    · go_ret
      exact took_end HR.out H1.out H4.out (by omega) (drop_past H4.out n) (by omega) (by have := HM.out; omega) (by omega) HM.out
end Go.Proofs.YtcbkbdoaaaofjaaGreat
