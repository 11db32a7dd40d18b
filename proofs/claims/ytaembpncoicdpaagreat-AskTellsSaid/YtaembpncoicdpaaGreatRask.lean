
/-
  Requests: Bytes, number, behind, Same of the document's layer 6, walked.
-/
import Derived.Test.YtaembpncoicdpaaGreatRtext
import Derived.Test.YtaembpncoicdpaaGreatRs2
import Derived.Deep.QuietTactic
import Derived.BigQuiet
namespace Go.Proofs.YtaembpncoicdpaaGreat
open Go.RowKit

namespace Ak
def bytes (a : Ask) : List UInt8 := if right a then text a else []
def codeA (a : Ask) : Nat := if right a then 0 else 2
/-- The number by two bytes at a place. -/
def num (b : List UInt8) (at_ : Nat) : Nat := if b.length < at_ + 2 then 0 else 256 * (b.getD at_ 0).toNat + (b.getD (at_ + 1) 0).toNat
def same (a b : Ask) : Bool := a.code == b.code && a.addr == b.addr && a.count == b.count && a.to == b.to && a.and_ == b.and_ && a.or_ == b.or_ && a.words == b.words && a.bits == b.bits
end Ak

/-- What Bytes of layer 6 leaves. -/
def AskBytesPost (w : World) (a : Ask) (e : Ending) (w' : World) : Prop :=
  ∃ A n c, e = .returned (.tuple #[.slice A n c, .int .i64 ((Ak.codeA a : Nat) : Int)]) ∧ (Ak.bytes a).length = n ∧ w'.ownsRow w.heap.size 5 1 (.slice A n c) n ((Ak.bytes a).map u8v) ∧ Below w.heap.size w w'

set_option maxRecDepth 100000 in
set_option maxHeartbeats 4000000 in
theorem rbytes6_any (a : Ask) (h k : Option Addr × Nat × Nat) (w : World) (ha : AskIn w a h k) :
    Calls Tryz.prog 7 #[askV a h k] w (AskBytesPost w a) := by
  have hb0 : Below w.heap.size w (w.alloc (.cells #[.int .i64 a.code, .int .i64 a.addr, .int .i64 a.count, .int .i64 a.to, .slice h.1 h.2.1 h.2.2, .slice k.1 k.2.1 k.2.2, u16v a.and_, u16v a.or_] 30)) := (Below.refl _ _).alloc (Nat.le_refl _) _
  have hrow := row_at w #[.int .i64 a.code, .int .i64 a.addr, .int .i64 a.count, .int .i64 a.to, .slice h.1 h.2.1 h.2.2, .slice k.1 k.2.1 k.2.2, u16v a.and_, u16v a.or_] 30 w.heap.size rfl
  have ha1 := ha.below hb0
  have hA : askV a h k = .agg #[.int .i64 a.code, .int .i64 a.addr, .int .i64 a.count, .int .i64 a.to, .slice h.1 h.2.1 h.2.2, .slice k.1 k.2.1 k.2.2, u16v a.and_, u16v a.or_] := rfl
  rw [hA]
  go_enter Tryz.func7, Tryz.ntmps7
  go_wp2_with fail
  refine (rright_any a h k _ ha1).mono ?_
  rintro e w2 ⟨rfl, hb2⟩
  have hbw := hb0.trans (hb2.mono hb0.size)
  have ha2 := ha1.below hb2
  obtain ⟨r0, r1, r2, r3, r4, r5, r6, r7⟩ := row_eight (row_later hrow hb2)
  have hz := hbw.size
  cases hf : Ak.right a with
  | false =>
    have HC : Hid (Ak.codeA a = 2) := Lib.hid (by unfold Ak.codeA; rw [hf]; rfl)
    have HB : Hid (Ak.bytes a = []) := Lib.hid (by unfold Ak.bytes; rw [hf]; rfl)
    go_wp2_with fail
    go_ret2
    exact ⟨none, 0, 0, by rw [HC.out]; rfl, by rw [HB.out]; rfl, by rw [HB.out]; exact World.ownsRow_nil _ _ _ _, hbw⟩
  | true =>
    have HC : Hid (Ak.codeA a = 0) := Lib.hid (by unfold Ak.codeA; rw [hf]; rfl)
    have HB : Hid (Ak.bytes a = Ak.text a) := Lib.hid (by unfold Ak.bytes; rw [hf]; rfl)
    have hff : Ak.formed a = true := by
      unfold Ak.right at hf
      rw [Bool.and_eq_true] at hf
      exact hf.1
    have HFF := Lib.hid hff
    clear hf hff
    go_wp2_with fail
    refine (rtext_any a h k _ ha2 HFF.out).mono ?_
    rintro e w3 ⟨A, n, c, rfl, hn, hown, hb3⟩
    go_wp2_with fail
    go_ret2
    exact ⟨A, n, c, by rw [HC.out]; rfl, by rw [HB.out]; exact hn, by rw [HB.out]; exact own_lower hown hz, hbw.trans (hb3.mono hz)⟩

set_option maxRecDepth 100000 in
set_option maxHeartbeats 1000000 in
theorem rnumber_any (A : Option Addr) (n c at_ : Nat) (b : List UInt8) (hn : b.length = n) (ht : at_ ≤ 1000) (hm : n ≤ 100000) (w : World) (hb : Lies u8v w A b) :
    Calls Tryz.prog 63 #[.slice A n c, .int .i64 (at_ : Int)] w fun e w' => e = .returned (.int .i64 ((Ak.num b at_ : Nat) : Int)) ∧ ∃ q, w' = w.drewN q := by
  have w1 : IntKind.i64.wrap ((at_ : Int) + 2) = ((at_ + 2 : Nat) : Int) := by rw [IntKind.wrap_i64]; omega
  by_cases h : n < at_ + 2
  · have HV : Hid (Ak.num b at_ = 0) := Lib.hid (by unfold Ak.num; rw [if_pos (by omega)])
    have h1 : (n : Int) < (at_ : Int) + 2 := by omega
    clear hn hb
    go_enter Tryz.func63, Tryz.ntmps63
    go_wp2_with fail
    go_ret
    exact ⟨by rw [HV.out]; rfl, 0, rfl⟩
  · have HV : Hid (Ak.num b at_ = 256 * (b.getD at_ 0).toNat + (b.getD (at_ + 1) 0).toNat) := Lib.hid (by unfold Ak.num; rw [if_neg (by omega)])
    have h1 : ¬ (n : Int) < (at_ : Int) + 2 := by omega
    obtain ⟨b1, o1, rfl, _, hc⟩ := hb.at_ (by omega)
    have c0 := hc at_ (by omega)
    have c1 := hc (at_ + 1) (by omega)
    have e0 : b[at_]'(by omega) = b.getD at_ 0 := by rw [List.getD_eq_getElem?_getD, List.getElem?_eq_getElem (by omega)]; rfl
    have e1 : b[at_ + 1]'(by omega) = b.getD (at_ + 1) 0 := by rw [List.getD_eq_getElem?_getD, List.getElem?_eq_getElem (by omega)]; rfl
    rw [e0] at c0
    rw [e1] at c1
    have l0 := (b.getD at_ 0).toNat_lt
    have l1 := (b.getD (at_ + 1) 0).toNat_lt
    generalize b.getD at_ 0 = x at *
    generalize b.getD (at_ + 1) 0 = y at *
    have i0 : (at_ : Int) < (n : Int) := by omega
    have i1 : (at_ : Int) + 1 < (n : Int) := by omega
    have w2 : IntKind.i64.wrap ((at_ : Int) + 1) = ((at_ + 1 : Nat) : Int) := by rw [IntKind.wrap_i64]; omega
    clear e0 e1 hc hn hb
    go_enter Tryz.func63, Tryz.ntmps63
    go_wp2
    go_quiet (fail)
    go_wp2
    go_ret
    exact ⟨by rw [HV.out]; push_cast; rfl, _, rfl⟩
end Go.Proofs.YtaembpncoicdpaaGreat
