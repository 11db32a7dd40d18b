
/-
  Answers: what the document's layer 7 answers (the mathematics, first part), and how they lie in memory.
-/
import Derived.Test.YtcbkbdoaaaofjaaGreatRask
import Derived.Test.YtcbkbdoaaaofjaaGreatRs2
import Derived.Lib.MinMax
namespace Go.Proofs.YtcbkbdoaaaofjaaGreat
open Go.RowKit

abbrev strv (s : ByteArray) : Value := .string s
structure Ans where
  exc : Int
  bits : List Bool
  words : List UInt16
  texts : List ByteArray
  deriving DecidableEq

namespace An
def zero : Ans := ⟨0, [], [], []⟩
/-- How many bytes texts have, of 43: by steps, until there are enough. -/
def longF : Nat → List ByteArray → Nat
  | n, [] => n
  | n, s :: r => if n < 1000 then longF (n + 2 + s.size) r else n
def long (l : List ByteArray) : Nat := longF 7 l
def wantTexts (a : Ask) (x : Ans) : Bool := x.exc == 0 && a.code == 43
def wantBits (a : Ask) (x : Ans) : Int := if x.exc = 0 ∧ a.code ≤ 2 then a.count else 0
def wantWords (a : Ask) (x : Ans) : Int := if x.exc = 0 ∧ (a.code = 3 ∨ a.code = 4 ∨ a.code = 23) then a.count else 0
def shortTexts (l : List ByteArray) : Bool := (l.take 300).all fun s => decide (s.size ≤ 245)
def right (a : Ask) (x : Ans) : Bool :=
  Ak.right a && decide (0 ≤ x.exc) && decide (x.exc ≤ 255) && decide ((x.bits.length : Int) = wantBits a x) && decide ((x.words.length : Int) = wantWords a x) && (decide (0 < x.texts.length) == wantTexts a x) && shortTexts x.texts &&
  (!wantTexts a x || decide (long x.texts ≤ 253) && decide (a.addr + x.texts.length ≤ 256))
def same (x y : Ans) : Bool := x.exc == y.exc && x.bits == y.bits && x.words == y.words && decide (x.texts = y.texts)
def large (x : Ans) : Bool := decide (3000 < x.bits.length) || decide (300 < x.words.length) || decide (300 < x.texts.length) || decide (900 < long x.texts)
theorem longF_cons (n : Nat) (s : ByteArray) (r : List ByteArray) (h : n < 1000) : longF n (s :: r) = longF (n + 2 + s.size) r := by
  show (if n < 1000 then _ else _) = _
  rw [if_pos h]
theorem longF_stop (n : Nat) (l : List ByteArray) (h : ¬ n < 1000) : longF n l = n := by
  cases l with
  | nil => rfl
  | cons s r =>
    show (if n < 1000 then _ else _) = _
    rw [if_neg h]
end An

abbrev Hd := Option Addr × Nat × Nat
def ansV (x : Ans) (h k t : Hd) : Value := .agg #[.int .i64 x.exc, .slice h.1 h.2.1 h.2.2, .slice k.1 k.2.1 k.2.2, .slice t.1 t.2.1 t.2.2]
structure AnsIn (w : World) (x : Ans) (h k t : Hd) : Prop where
  hn : x.bits.length = h.2.1
  hc : h.2.1 ≤ h.2.2
  hm : h.2.2 ≤ maxLen
  hl : Lies bitv w h.1 x.bits
  kn : x.words.length = k.2.1
  kc : k.2.1 ≤ k.2.2
  km : k.2.2 ≤ maxLen
  kl : Lies u16v w k.1 x.words
  tn : x.texts.length = t.2.1
  tc : t.2.1 ≤ t.2.2
  tm : t.2.2 ≤ maxLen
  tl : Lies strv w t.1 x.texts
  ts : ∀ s ∈ x.texts, s.size ≤ 140737488355328
theorem AnsIn.below {w w' : World} {x : Ans} {h k t : Hd} (i : AnsIn w x h k t) (hb : Below w.heap.size w w') : AnsIn w' x h k t :=
  ⟨i.hn, i.hc, i.hm, i.hl.below hb (Nat.le_refl _), i.kn, i.kc, i.km, i.kl.below hb (Nat.le_refl _), i.tn, i.tc, i.tm, i.tl.below hb (Nat.le_refl _), i.ts⟩
theorem AnsIn.zero (w : World) : AnsIn w An.zero (none, 0, 0) (none, 0, 0) (none, 0, 0) :=
  ⟨rfl, Nat.le_refl _, Nat.zero_le _, Lies.nil _ _, rfl, Nat.le_refl _, Nat.zero_le _, Lies.nil _ _, rfl, Nat.le_refl _, Nat.zero_le _, Lies.nil _ _, by intro s hs; cases hs⟩
theorem row_quad {w : World} {g : Nat} {a b c d : Value} {t : TypeId} (h : w.heap[g]? = some (.cells #[a, b, c, d] t (0, 0))) :
    w.cell? ⟨g, 0, none⟩ = some a ∧ w.cell? ⟨g, 1, none⟩ = some b ∧ w.cell? ⟨g, 2, none⟩ = some c ∧ w.cell? ⟨g, 3, none⟩ = some d := by
  simp [World.cell?, h]
theorem row_quad_free {w : World} {g : Nat} {a b c d : Value} {t : TypeId} (h : w.heap[g]? = some (.cells #[a, b, c, d] t (0, 0))) :
    w.frozen? ⟨g, 0, none⟩ = false ∧ w.frozen? ⟨g, 1, none⟩ = false ∧ w.frozen? ⟨g, 2, none⟩ = false ∧ w.frozen? ⟨g, 3, none⟩ = false := by
  simp [World.frozen?, h]

set_option maxRecDepth 100000 in
set_option maxHeartbeats 1000000 in
theorem rlong_any (A : Option Addr) (n c : Nat) (l : List ByteArray) (hn : l.length = n) (hm : n ≤ maxLen) (hs : ∀ s ∈ l, s.size ≤ 140737488355328) (w : World) (h : Lies strv w A l) :
    Calls Tryz.prog 19 #[.slice A n c] w fun e w' => e = .returned (.int .i64 ((An.long l : Nat) : Int)) ∧ w' = w := by
  subst hn
  unfold maxLen at hm
  go_enter Tryz.func19, Tryz.ntmps19
  go_wp2
  go_loop [3, 4] (fun nv iv => ∃ j m : Nat, j ≤ l.length ∧ iv = .int .i64 j ∧ nv = .int .i64 m ∧ An.longF m (l.drop j) = An.long l ∧ m ≤ 140737488356400) (fun _ iv => l.length - (intOf iv).toNat)
  case atStart => exact ⟨0, 7, Nat.zero_le _, rfl, rfl, rfl, by omega⟩
  case round =>
    obtain ⟨j, m, hj, rfl, rfl, hl, hmm⟩ := hrel
    have HL := Lib.hid hl
    clear hl
    by_cases hlt : j < l.length
    · have i1 : (j : Int) < (l.length : Int) := by omega
      by_cases hm2 : m < 1000
      · have i2 : (m : Int) < 1000 := by omega
        obtain ⟨b1, o1, rfl, hc1⟩ := h j hlt
        have hsz := hs l[j] (List.getElem_mem hlt)
        have HD : Hid (An.longF (m + 2 + (l[j]).size) (l.drop (j + 1)) = An.long l) := Lib.hid (by rw [← HL.out, List.drop_eq_getElem_cons hlt, An.longF_cons _ _ _ hm2])
        generalize l[j] = s at *
        have w1 : IntKind.i64.wrap ((m : Int) + 2) = (m : Int) + 2 := by rw [IntKind.wrap_i64]; omega
        have w2 : IntKind.i64.wrap ((m : Int) + 2 + (s.size : Int)) = (m : Int) + 2 + (s.size : Int) := by rw [IntKind.wrap_i64]; omega
        go_wp2
        go_round
        case rel => exact ⟨j + 1, m + 2 + s.size, by omega, by go_num, by go_num, HD.out, by omega⟩
        case measure => simp [intOf]; omega
      · have i2 : ¬ (m : Int) < 1000 := by omega
        have HE : Hid (An.long l = m) := Lib.hid (by rw [← HL.out, An.longF_stop _ _ hm2])
        go_wp2
        go_ret
        exact ⟨by rw [HE.out]; rfl, rfl⟩
    · obtain rfl : j = l.length := by omega
      have HE : Hid (An.long l = m) := Lib.hid (by rw [← HL.out, List.drop_length]; rfl)
      go_wp2
      go_ret
      exact ⟨by rw [HE.out]; rfl, rfl⟩
end Go.Proofs.YtcbkbdoaaaofjaaGreat
