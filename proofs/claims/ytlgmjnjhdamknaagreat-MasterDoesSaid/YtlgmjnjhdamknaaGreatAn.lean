
/- A part of the proof of the law MasterDoes. -/
import Derived.Test.YtlgmjnjhdamknaaGreatMem
import Derived.Test.YtlgmjnjhdamknaaGreatRs2
import Derived.Lib.MinMax
import Derived.Laws.BitsAllLaws
import Derived.Test.YtlgmjnjhdamknaaGreatProg
import Derived.WalkKit
import Derived.Outline
import Derived.Below
import Derived.Lib.Hide
import Derived.Deep.QuietTactic
import Derived.BigQuiet
namespace Go.Proofs.YtlgmjnjhdamknaaGreat
open Go.RowKit

abbrev strv (s : ByteArray) : Value := .string s
structure Ans where
  exc : Int
  bits : List Bool
  words : List UInt16
  texts : List ByteArray
  deriving DecidableEq

namespace An
def zero : Ans := ⟨0, [], [], []⟩
def longF : Nat → List ByteArray → Nat
  | n, [] => n
  | n, s :: r => if n < 1000 then longF (n + 2 + s.size) r else n
def long (l : List ByteArray) : Nat := longF 7 l
def wantTexts (a : Ask) (x : Ans) : Bool := x.exc == 0 && a.code == 43
def wantBits (a : Ask) (x : Ans) : Int := if x.exc = 0 ∧ a.code ≤ 2 then a.count else 0
def wantWords (a : Ask) (x : Ans) : Int := if x.exc = 0 ∧ (a.code = 3 ∨ a.code = 4 ∨ a.code = 23) then a.count else 0
def shortTexts (l : List ByteArray) : Bool := (l.take 300).all fun s => decide (s.size ≤ 245)
def right (a : Ask) (x : Ans) : Bool :=
  Ak.right a && decide (0 ≤ x.exc) && decide (x.exc ≤ 255) && decide ((x.bits.length : Int) = wantBits a x) && decide ((x.words.length : Int) = wantWords a x) && (decide (0 < x.texts.length) == wantTexts a x) && shortTexts x.texts &&
  (!wantTexts a x || decide (long x.texts ≤ 253) && decide (a.addr + x.texts.length ≤ 256))
def same (x y : Ans) : Bool := x.exc == y.exc && x.bits == y.bits && x.words == y.words && decide (x.texts = y.texts)
theorem longF_cons (n : Nat) (s : ByteArray) (r : List ByteArray) (h : n < 1000) : longF n (s :: r) = longF (n + 2 + s.size) r := by
  show (if n < 1000 then _ else _) = _
  rw [if_pos h]
theorem longF_stop (n : Nat) (l : List ByteArray) (h : ¬ n < 1000) : longF n l = n := by
  cases l with
  | nil => rfl
  | cons s r =>
    show (if n < 1000 then _ else _) = _
    rw [if_neg h]
end An

abbrev Hd := Option Addr × Nat × Nat
def ansV (x : Ans) (h k t : Hd) : Value := .agg #[.int .i64 x.exc, .slice h.1 h.2.1 h.2.2, .slice k.1 k.2.1 k.2.2, .slice t.1 t.2.1 t.2.2]
structure AnsIn (w : World) (x : Ans) (h k t : Hd) : Prop where
  hn : x.bits.length = h.2.1
  hc : h.2.1 ≤ h.2.2
  hm : h.2.2 ≤ maxLen
  hl : Lies bitv w h.1 x.bits
  kn : x.words.length = k.2.1
  kc : k.2.1 ≤ k.2.2
  km : k.2.2 ≤ maxLen
  kl : Lies u16v w k.1 x.words
  tn : x.texts.length = t.2.1
  tc : t.2.1 ≤ t.2.2
  tm : t.2.2 ≤ maxLen
  tl : Lies strv w t.1 x.texts
  ts : ∀ s ∈ x.texts, s.size ≤ 140737488355328
theorem AnsIn.below {w w' : World} {x : Ans} {h k t : Hd} (i : AnsIn w x h k t) (hb : Below w.heap.size w w') : AnsIn w' x h k t :=
  ⟨i.hn, i.hc, i.hm, i.hl.below hb (zq _), i.kn, i.kc, i.km, i.kl.below hb (zq _), i.tn, i.tc, i.tm, i.tl.below hb (zq _), i.ts⟩
theorem AnsIn.zero (w : World) : AnsIn w An.zero (none, 0, 0) (none, 0, 0) (none, 0, 0) :=
  ⟨rfl, zq _, Nat.zero_le _, Lies.nil _ _, rfl, zq _, Nat.zero_le _, Lies.nil _ _, rfl, zq _, Nat.zero_le _, Lies.nil _ _, by intro s hs; cases hs⟩
theorem row_quad {w : World} {g : Nat} {a b c d : Value} {t : TypeId} (h : w.heap[g]? = some (.cells #[a, b, c, d] t (0, 0))) :
    w.cell? ⟨g, 0, none⟩ = some a ∧ w.cell? ⟨g, 1, none⟩ = some b ∧ w.cell? ⟨g, 2, none⟩ = some c ∧ w.cell? ⟨g, 3, none⟩ = some d := by
  simp [World.cell?, h]
theorem row_quad_free {w : World} {g : Nat} {a b c d : Value} {t : TypeId} (h : w.heap[g]? = some (.cells #[a, b, c, d] t (0, 0))) :
    w.frozen? ⟨g, 0, none⟩ = false ∧ w.frozen? ⟨g, 1, none⟩ = false ∧ w.frozen? ⟨g, 2, none⟩ = false ∧ w.frozen? ⟨g, 3, none⟩ = false := by
  simp [World.frozen?, h]

set_option maxRecDepth 100000 in
set_option maxHeartbeats 1000000 in
theorem rlong_any (A : Option Addr) (n c : Nat) (l : List ByteArray) (hn : l.length = n) (hm : n ≤ maxLen) (hs : ∀ s ∈ l, s.size ≤ 140737488355328) (w : World) (h : Lies strv w A l) :
    Calls Tryz.prog 49 #[.slice A n c] w fun e w' => e = .returned (.int .i64 ((An.long l : Nat) : Int)) ∧ w' = w := by
  subst hn
  unfold maxLen at hm
  go_enter Tryz.func49, Tryz.ntmps49
  go_wp2
  go_loop [3, 4] (fun nv iv => ∃ j m : Nat, j ≤ l.length ∧ iv = .int .i64 j ∧ nv = .int .i64 m ∧ An.longF m (l.drop j) = An.long l ∧ m ≤ 140737488356400) (fun _ iv => l.length - (intOf iv).toNat)
  case atStart => exact ⟨0, 7, Nat.zero_le _, rfl, rfl, rfl, by omega⟩
  case round =>
    obtain ⟨j, m, hj, rfl, rfl, hl, hmm⟩ := hrel
    have HL := qh hl
    clear hl
    by_cases hlt : j < l.length
    · have i1 : (j : Int) < (l.length : Int) := by omega
      by_cases hm2 : m < 1000
      · have i2 : (m : Int) < 1000 := by omega
        obtain ⟨b1, o1, rfl, hc1⟩ := h j hlt
        have hsz := hs l[j] (List.getElem_mem hlt)
        have HD : Hid (An.longF (m + 2 + (l[j]).size) (l.drop (j + 1)) = An.long l) := qh (by rw [← HL.out, List.drop_eq_getElem_cons hlt, An.longF_cons _ _ _ hm2])
        generalize l[j] = s at *
        have w1 : IntKind.i64.wrap ((m : Int) + 2) = (m : Int) + 2 := by rw [IntKind.wrap_i64]; omega
        have w2 : IntKind.i64.wrap ((m : Int) + 2 + (s.size : Int)) = (m : Int) + 2 + (s.size : Int) := by rw [IntKind.wrap_i64]; omega
        go_wp2
        go_round
        case rel => exact ⟨j + 1, m + 2 + s.size, by omega, by go_num, by go_num, HD.out, by omega⟩
        case measure => simp [intOf]; omega
      · have i2 : ¬ (m : Int) < 1000 := by omega
        have HE : Hid (An.long l = m) := qh (by rw [← HL.out, An.longF_stop _ _ hm2])
        go_wp2
        go_ret
        exact ⟨by rw [HE.out]; rfl, rfl⟩
    · obtain rfl : j = l.length := by omega
      have HE : Hid (An.long l = m) := qh (by rw [← HL.out, List.drop_length]; rfl)
      go_wp2
      go_ret
      exact ⟨by rw [HE.out]; rfl, rfl⟩
end Go.Proofs.YtlgmjnjhdamknaaGreat

namespace Go.Proofs.YtlgmjnjhdamknaaGreat
open Go.ChangeShapes Go.WideShapes Go.ChangeAt Go.RowKit

section
variable {P : Program} {H : Type} {enc : TypeId × Value → H} {w : World} {b : Nat} {sp : Nat → Bool} {hd : Bool} {t e ew eb es : TypeId}
end
end Go.Proofs.YtlgmjnjhdamknaaGreat

namespace Go.Proofs.YtlgmjnjhdamknaaGreat
open Go.ChangeShapes Go.WideShapes Go.ChangeAt Go.RowKit

def RCfg (cs : List Value) (c : UInt8 × Int × Int × Int) : Prop := cs = [u8v c.1, .int .i64 c.2.1, .int .i64 c.2.2.1, .int .i64 c.2.2.2]
section
variable {P : Program} {H : Type} {enc : TypeId × Value → H} {w : World} {b : Nat} {sp : Nat → Bool} {hd : Bool} {t e ew eb : TypeId}
theorem open_cfg {f0 f1 f2 f3 : Field} (hu : P.underlying t = some (.struct #[f0, f1, f2, f3])) (h0 : P.underlying f0.type = some (.int .u8)) (h1 : P.underlying f1.type = some (.int .i64)) (h2 : P.underlying f2.type = some (.int .i64)) (h3 : P.underlying f3.type = some (.int .i64))
    (ho0 : f0.offset = 0) (hc0 : P.cellsOf f0.type = 1) (ho1 : f1.offset = 1) (hc1 : P.cellsOf f1.type = 1) (ho2 : f2.offset = 2) (hc2 : P.cellsOf f2.type = 1) (ho3 : f3.offset = 3) (hc3 : P.cellsOf f3.type = 1) (hck : P.cellsOf t = 4) : Opens enc P w b sp hd t (fun (c : UInt8 × Int × Int × Int) cs => RCfg cs c) := by
  intro m cs y h hs
  obtain ⟨xs, k, rfl, hx, hl, hxl, hf⟩ := DataW.trod_struct hu h
  rw [hck] at hl
  obtain ⟨x0, x1, x2, x3, rfl⟩ : ∃ x0 x1 x2 x3, xs = [x0, x1, x2, x3] := by
    match xs, hxl with
    | [x0, x1, x2, x3], _ => exact ⟨x0, x1, x2, x3, rfl⟩
  have hs' : Small P t (.agg ([x0, x1, x2, x3].map (·.1))) := by rw [hx] at hs; exact hs
  match cs, hl with
  | [c0, c1, c2, c3], _ =>
    have g0 := hf 0 f0 rfl
    rw [ho0, hc0] at g0
    have g1 := hf 1 f1 rfl
    rw [ho1, hc1] at g1
    have g2 := hf 2 f2 rfl
    rw [ho2, hc2] at g2
    have g3 := hf 3 f3 rfl
    rw [ho3, hc3] at g3
    obtain ⟨z0, e0⟩ := open_u8 h0 _ _ _ g0 (small_part hu hs' (j := 0) rfl rfl)
    obtain ⟨z1, e1, -, -⟩ := open_i64 h1 _ _ _ g1 (small_part hu hs' (j := 1) rfl rfl)
    obtain ⟨z2, e2, -, -⟩ := open_i64 h2 _ _ _ g2 (small_part hu hs' (j := 2) rfl rfl)
    obtain ⟨z3, e3, -, -⟩ := open_i64 h3 _ _ _ g3 (small_part hu hs' (j := 3) rfl rfl)
    simp at e0 e1 e2 e3
    subst e0 e1 e2 e3
    exact ⟨⟨z0, z1, z2, z3⟩, rfl⟩
end
end Go.Proofs.YtlgmjnjhdamknaaGreat

namespace Go.Proofs.YtlgmjnjhdamknaaGreat.Crc

def F (n : Nat) : Nat := if n % 2 = 1 then (n / 2) ^^^ 40961 else n / 2
def it : Nat → Nat → Nat
  | 0, n => n
  | k + 1, n => it k (F n)
def step (s x : Nat) : Nat := it 8 (s ^^^ x)
def more : Nat → List UInt8 → Nat
  | s, [] => s
  | s, x :: r => more (step s x.toNat) r

theorem F_lt {n : Nat} (h : n < 65536) : F n < 65536 := by
  unfold F
  split
  · exact Nat.xor_lt_two_pow (n := 16) (by omega) (by omega)
  · omega
theorem it_lt (k : Nat) : ∀ {n : Nat}, n < 65536 → it k n < 65536 := by
  induction k with
  | zero => intro n h; exact h
  | succ k ih => intro n h; exact ih (F_lt h)
theorem step_lt {s x : Nat} (hs : s < 65536) (hx : x < 256) : step s x < 65536 :=
  it_lt 8 (Nat.xor_lt_two_pow (n := 16) (by omega) (by omega))
theorem more_lt (l : List UInt8) : ∀ {s : Nat}, s < 65536 → more s l < 65536 := by
  induction l with
  | nil => intro s h; exact h
  | cons x r ih => intro s h; exact ih (step_lt h x.toNat_lt)
theorem more_append (a b : List UInt8) : ∀ s : Nat, more s (a ++ b) = more (more s a) b := by
  induction a with
  | nil => intro s; rfl
  | cons x r ih => intro s; exact ih _
theorem more_take (s : Nat) (l : List UInt8) (k : Nat) (h : k < l.length) : more s (l.take (k + 1)) = step (more s (l.take k)) (l[k]).toNat := by
  rw [List.take_succ_eq_append_getElem h, more_append]; rfl

theorem it_add (a : Nat) : ∀ b n : Nat, it (a + b) n = it b (it a n) := by
  induction a with
  | zero => intro b n; rw [Nat.zero_add]; rfl
  | succ a ih => intro b n; rw [show a + 1 + b = (a + b) + 1 from by omega]; exact ih b (F n)
theorem low_xor (s : Nat) : s ^^^ (s % 256) = s / 256 * 2 ^ 8 := by
  apply Nat.eq_of_testBit_eq
  intro i
  rw [Nat.testBit_xor, show (256 : Nat) = 2 ^ 8 from rfl, Nat.testBit_mod_two_pow, Nat.testBit_mul_two_pow, Nat.testBit_div_two_pow]
  by_cases h : i < 8
  · simp [h]; omega
  · simp [h]; rw [show i - 8 + 8 = i from by omega]; simp; omega
theorem join_xor (x n : Nat) (h : x < 256) : x + 256 * n = x ^^^ (n * 2 ^ 8) := by
  apply Nat.eq_of_testBit_eq
  intro i
  rw [Nat.testBit_xor, Nat.testBit_mul_two_pow, show x + 256 * n = 2 ^ 8 * n + x from by omega, Nat.testBit_two_pow_mul_add n (show x < 2 ^ 8 from h)]
  by_cases hi : i < 8
  · rw [if_pos hi]
    have : ¬ 8 ≤ i := by omega
    simp [this]
  · rw [if_neg hi, Nat.testBit_lt_two_pow (Nat.lt_of_lt_of_le (show x < 2 ^ 8 from h) (Nat.pow_le_pow_right (by omega) (by omega)))]
    have : 8 ≤ i := by omega
    simp [this]
end Go.Proofs.YtlgmjnjhdamknaaGreat.Crc

namespace Go.Proofs.YtlgmjnjhdamknaaGreat
open Go.RowKit

namespace Crc
theorem it_take (k n : Nat) : it (k + 1) n = F (it k n) := by rw [it_add]; rfl
end Crc

theorem and_one (m : Nat) (h : m < 65536) : bits .and .u16 (m : Int) 1 = ((m % 2 : Nat) : Int) := by
  have := u16_and_nat m 1 h (by omega)
  rw [nat_mask1] at this
  exact this
theorem xor_turn (m : Nat) (h : m < 65536) : bits .xor .u16 ((m : Int) / 2) 40961 = ((m / 2 ^^^ 40961 : Nat) : Int) := u16_xor_nat (m / 2) 40961 (by omega) (by omega)

set_option maxHeartbeats 400000 in
theorem step_any (s x : Nat) (hs : s < 65536) (hx : x < 256) (w : World) :
    Calls Tryz.prog 166 #[.int .u16 s, .int .u8 x] w fun e w' => e = .returned (.int .u16 (Crc.step s x : Nat)) ∧ w = w' := by
  have hxor := u16_xor_nat s x hs (by omega)
  go_enter Tryz.func166, Tryz.ntmps166
  go_wp2
  clear hxor
  have hlt : ∀ k, Crc.it k (s ^^^ x) < 65536 := fun k => Crc.it_lt k (Nat.xor_lt_two_pow (n := 16) (by omega) (by omega))
  have HL := qh hlt
  clear hlt
  go_loop [0, 10] (fun t i => ∃ k : Nat, k ≤ 8 ∧ i = .int .i64 k ∧ t = .int .u16 (Crc.it k (s ^^^ x) : Nat)) (fun _ i => 8 - (intOf i).toNat)
  case atStart => exact ⟨0, by omega, rfl, rfl⟩
  case round =>
    obtain ⟨k, hk, rfl, rfl⟩ := hrel
    have hm := HL.out k
    clear HL
    by_cases hlt : k < 8
    · have HT := qh (Crc.it_take k (s ^^^ x))
      generalize Crc.it k (s ^^^ x) = m at hm HT
      rcases Nat.mod_two_eq_zero_or_one m with h2 | h2
      · have ha := and_one m hm
        rw [h2] at ha
        have HF : Hid (Crc.it (k + 1) (s ^^^ x) = m / 2) := by have := HT.out; rw [this]; show Crc.F m = _; unfold Crc.F; rw [if_neg (by omega)]
        clear h2 HT
        go_wp2
        go_round
        case rel => exact ⟨k + 1, by omega, by go_num, by rw [HF.out]; rfl⟩
        case measure => simp [intOf]; omega
      · have ha := and_one m hm
        rw [h2] at ha
        have hx := xor_turn m hm
        have HF : Hid (Crc.it (k + 1) (s ^^^ x) = m / 2 ^^^ 40961) := by have := HT.out; rw [this]; show Crc.F m = _; unfold Crc.F; rw [if_pos (by omega)]
        clear h2 HT
        go_wp2
        go_round
        case rel => exact ⟨k + 1, by omega, by go_num, by rw [HF.out]⟩
        case measure => simp [intOf]; omega
    · obtain rfl : k = 8 := by omega
      go_wp2
      go_ret
      exact ⟨rfl, rfl⟩

namespace Crc
theorem low_more (a c B : Nat) (j : Nat) (hB : 2 ^ j = B) : (a ^^^ c) % (2 * B) = (a ^^^ c) % B + (if a / B % 2 = c / B % 2 then 0 else B) := by
  subst hB
  have h1 : (a ^^^ c) % (2 ^ j * 2) = (a ^^^ c) % 2 ^ j + 2 ^ j * ((a ^^^ c) / 2 ^ j % 2) := Nat.mod_mul
  rw [Nat.mul_comm 2, h1, Nat.xor_div_two_pow]
  have h2 : (a / 2 ^ j ^^^ c / 2 ^ j) % 2 = (a / 2 ^ j % 2) ^^^ (c / 2 ^ j % 2) := Nat.xor_mod_two_pow (n := 1)
  rw [h2]
  rcases Nat.mod_two_eq_zero_or_one (a / 2 ^ j) with h3 | h3 <;> rcases Nat.mod_two_eq_zero_or_one (c / 2 ^ j) with h4 | h4 <;> simp [h3, h4]
theorem low_all (s c : Nat) (hc : c < 256) : s - s % 256 + (s % 256 ^^^ c) % 256 = s ^^^ c := by
  have h1 : (s % 256 ^^^ c) % 256 = s % 256 ^^^ c := Nat.mod_eq_of_lt (Nat.xor_lt_two_pow (n := 8) (by omega) (by omega))
  have h2 : s ^^^ c = (s % 256 ^^^ c) ^^^ (s / 256 * 2 ^ 8) := by
    rw [← low_xor]
    have : s % 256 ^^^ c ^^^ (s ^^^ s % 256) = (s % 256 ^^^ s % 256) ^^^ (s ^^^ c) := by ac_rfl
    rw [this, Nat.xor_self, Nat.zero_xor]
  have h3 : s % 256 ^^^ c < 256 := Nat.xor_lt_two_pow (n := 8) (by omega) (by omega)
  rw [h1, h2, ← join_xor _ _ h3]
  omega
theorem xor_lt256 {a c : Nat} (ha : a < 256) (hc : c < 256) : a ^^^ c < 256 := Nat.xor_lt_two_pow (n := 8) (by omega) (by omega)
end Crc

theorem bit_of (a B : Nat) (h : a < 65536) : (wrap64 ((a : Int) / (B : Int))).tmod 2 = ((a / B % 2 : Nat) : Int) := by
  have h0 : a / B ≤ a := Nat.div_le_self _ _
  have h1 : (a : Int) / (B : Int) = ((a / B : Nat) : Int) := by simp
  rw [h1]
  generalize a / B = q at h0
  rw [IntWalk.wrap64_in _ (by omega), Int.tmod_eq_emod_of_nonneg (by omega)]
  simp
theorem bits_same (a c B : Nat) (ha : a < 65536) (hc : c < 65536) (h : a / B % 2 = c / B % 2) :
    ((wrap64 ((a : Int) / (B : Int))).tmod 2 != (wrap64 ((c : Int) / (B : Int))).tmod 2) = false := by
  rw [bit_of a B ha, bit_of c B hc, h]; simp
theorem bits_other (a c B : Nat) (ha : a < 65536) (hc : c < 65536) (h : ¬ a / B % 2 = c / B % 2) :
    ((wrap64 ((a : Int) / (B : Int))).tmod 2 != (wrap64 ((c : Int) / (B : Int))).tmod 2) = true := by
  rw [bit_of a B ha, bit_of c B hc, bne_iff_ne]
  intro e
  exact h (by exact_mod_cast e)

set_option maxRecDepth 100000 in
set_option maxHeartbeats 400000 in
theorem rstep_any (s x : Nat) (hs : s < 65536) (hx : x < 256) (w : World) :
    Calls Tryz.prog 170 #[.int .u16 s, .int .u8 x] w fun e w' => e = .returned (.int .u16 (Crc.step s x : Nat)) ∧ ∃ n, w' = w.drewN n := by
  go_enter Tryz.func170, Tryz.ntmps170
  go_wp2
  obtain ⟨low, hlow⟩ : ∃ low : Nat, low = s % 256 := ⟨_, rfl⟩
  have hlw : (s : Int) % 256 = (low : Int) := by omega
  rw [hlw]
  have hl256 : low < 256 := by omega
  have HLOW := qh hlow
  clear hlow hlw
  go_loopw [7, 8] (fun t i wr => ∃ j : Nat, j ≤ 8 ∧ i = .int .i64 ((2 ^ j : Nat) : Int) ∧ t = .int .i64 (((low ^^^ x) % 2 ^ j : Nat) : Int) ∧ ∃ n, wr = w.drewN n) (fun _ i _ => 256 - (intOf i).toNat)
  case atStart => exact ⟨0, by omega, rfl, by rw [Nat.pow_zero, Nat.mod_one]; rfl, 0, rfl⟩
  case round =>
    obtain ⟨j, hj, rfl, rfl, n, rfl⟩ := hrel
    by_cases hlt : j < 8
    · have HP : Hid (2 ^ (j + 1) = 2 * 2 ^ j) := by rw [Nat.pow_succ]; exact Nat.mul_comm _ _
      have HM := fun B hB => Crc.low_more low x B j hB
      have h1 : 1 ≤ 2 ^ j := Nat.one_le_two_pow
      have h2 : 2 ^ j ≤ 2 ^ 7 := Nat.pow_le_pow_right (by omega) (by omega)
      have h3 : (low ^^^ x) % 2 ^ j < 2 ^ j := Nat.mod_lt _ (by omega)
      have HM' := qh (HM _ rfl)
      clear HM
      generalize hX : (low ^^^ x) % 2 ^ j = X at HM' h3
      generalize hB : 2 ^ j = B at HM' h1 h2 h3 HP hX
      clear hX hB
      have hb1 : (1 : Int) ≤ (B : Int) := by omega
      have hb2 : (B : Int) ≤ 128 := by omega
      by_cases hd : low / B % 2 = x / B % 2
      · have ht := bits_same low x B (by omega) (by omega) hd
        have HR : Hid ((low ^^^ x) % (2 * B) = X) := by have := HM'.out; rw [if_pos hd] at this; exact this
        clear hd HM'
        go_wp2
        go_quiet (fail)
        go_wp2
        go_roundw
        case rel => exact ⟨j + 1, by omega, by rw [HP.out]; rfl, by rw [HP.out, HR.out], _, rfl⟩
        case measure => simp [intOf]; omega
      · have ht := bits_other low x B (by omega) (by omega) hd
        have HR : Hid ((low ^^^ x) % (2 * B) = X + B) := by have := HM'.out; rw [if_neg hd] at this; exact this
        clear hd HM'
        go_wp2
        go_quiet (fail)
        go_wp2
        go_roundw
        case rel => exact ⟨j + 1, by omega, by rw [HP.out]; rfl, by rw [HP.out, HR.out]; rfl, _, rfl⟩
        case measure => simp [intOf]; omega
    · obtain rfl : j = 8 := by omega
      have HS := qh (Crc.low_all s x hx)
      have hb : (low ^^^ x) % 2 ^ 8 = low ^^^ x := Nat.mod_eq_of_lt (Crc.xor_lt256 hl256 hx)
      rw [hb]
      clear hb
      have hlo : low ≤ s := by have := HLOW.out; omega
      have hxl := Crc.xor_lt256 hl256 hx
      generalize hX : low ^^^ x = X at hxl
      have HS2 : Hid ((s : Int) - (low : Int) + (X : Int) = ((s ^^^ x : Nat) : Int)) := by
        have h1 := HS.out
        rw [← HLOW.out, hX, Nat.mod_eq_of_lt hxl] at h1
        show _ = _
        rw [← h1]
        omega
      have hsx : s ^^^ x < 65536 := Nat.xor_lt_two_pow (n := 16) (by omega) (by omega)
      clear hX HS
      have h8 : ((2 ^ 8 : Nat) : Int) = 256 := rfl
      rw [h8]
      clear h8
      go_wp2
      have hw : IntKind.u16.wrap ((s : Int) - (low : Int) + (X : Int)) = ((s ^^^ x : Nat) : Int) := by
        rw [HS2.out]; exact IntWalk.u16_in _ (by omega)
      rw [hw]
      clear hw HS2 HLOW
      have HL : Hid (∀ k, Crc.it k (s ^^^ x) < 65536) := qh fun k => Crc.it_lt k hsx
      clear hsx
      go_loop [0, 9] (fun t i => ∃ k : Nat, k ≤ 8 ∧ i = .int .i64 k ∧ t = .int .u16 (Crc.it k (s ^^^ x) : Nat)) (fun _ i => 8 - (intOf i).toNat)
      case atStart => exact ⟨0, by omega, rfl, rfl⟩
      case round =>
        obtain ⟨k, hk, rfl, rfl⟩ := hrel
        have hm := HL.out k
        clear HL
        by_cases hlt : k < 8
        · have HT := qh (Crc.it_take k (s ^^^ x))
          generalize Crc.it k (s ^^^ x) = m at hm HT
          rcases Nat.mod_two_eq_zero_or_one m with h2 | h2
          · have ha : ((m : Int) % 2 == 1) = false := by simp; omega
            have HF : Hid (Crc.it (k + 1) (s ^^^ x) = m / 2) := by have := HT.out; rw [this]; show Crc.F m = _; unfold Crc.F; rw [if_neg (by omega)]
            clear h2 HT
            go_wp2
            go_round
            case rel => exact ⟨k + 1, by omega, by go_num, by rw [HF.out]; rfl⟩
            case measure => simp [intOf]; omega
          · have ha : ((m : Int) % 2 == 1) = true := by simp; omega
            have hx := xor_turn m hm
            have HF : Hid (Crc.it (k + 1) (s ^^^ x) = m / 2 ^^^ 40961) := by have := HT.out; rw [this]; show Crc.F m = _; unfold Crc.F; rw [if_pos (by omega)]
            clear h2 HT
            go_wp2
            go_round
            case rel => exact ⟨k + 1, by omega, by go_num, by rw [HF.out]⟩
            case measure => simp [intOf]; omega
        · obtain rfl : k = 8 := by omega
          go_wp2
          go_ret
          exact ⟨rfl, n, rfl⟩
end Go.Proofs.YtlgmjnjhdamknaaGreat
