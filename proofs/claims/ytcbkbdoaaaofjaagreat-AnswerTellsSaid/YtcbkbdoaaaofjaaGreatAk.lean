
/-
  Requests: what the document's layer 6 answers (the mathematics, first part).
-/
import Derived.Test.YtcbkbdoaaaofjaaGreatKit
import Derived.Test.YtcbkbdoaaaofjaaGreatWm
namespace Go.Proofs.YtcbkbdoaaaofjaaGreat
open Go.RowKit

structure Ask where
  code : Int
  addr : Int
  count : Int
  to : Int
  words : List UInt16
  bits : List Bool
  and_ : UInt16
  or_ : UInt16
  deriving DecidableEq

namespace Ak
def zero : Ask := ⟨0, 0, 0, 0, [], [], 0, 0⟩
def most (c : Int) : Int × Int × Int :=
  if c = 1 ∨ c = 2 then (2000, 0, 0) else if c = 3 ∨ c = 4 then (125, 0, 0) else if c = 5 then (0, 0, 1) else if c = 6 then (0, 1, 0) else if c = 15 then (0, 0, 1968) else if c = 16 then (0, 123, 0) else if c = 23 then (125, 121, 0) else if c = 43 then (4, 0, 0) else (0, 0, 0)
def codes : List Int := [1, 2, 3, 4, 5, 6, 15, 16, 22, 23, 43]
def isC (c : Int) : Bool := decide (c ∈ codes)
def fits (n m : Int) : Bool := n == 0 && m == 0 || decide (1 ≤ n) && decide (n ≤ m)
def formed (a : Ask) : Bool :=
  isC a.code && fits a.count (most a.code).1 && fits a.words.length (most a.code).2.1 && fits a.bits.length (most a.code).2.2 &&
  !(a.code != 22 && (a.and_ != 0 || a.or_ != 0) || a.code != 23 && a.to != 0) &&
  (decide (0 ≤ a.addr) && decide (a.addr ≤ 65535) && decide (0 ≤ a.to) && decide (a.to ≤ 65535) && (a.code != 43 || decide (a.addr ≤ 255)))
def placed (a : Ask) : Bool :=
  if a.code = 23 then decide (a.addr + a.count ≤ 65536) && decide (a.to + a.words.length ≤ 65536)
  else a.code == 43 || decide (a.addr + max (max (max a.count a.bits.length) 1) a.words.length ≤ 65536)
def right (a : Ask) : Bool := formed a && placed a
def writes (c : Int) : Bool := c == 5 || c == 6 || c == 15 || c == 16 || c == 22 || c == 23
end Ak

/-- A request as a value: its words and bits lie behind the two headers. -/
def askV (a : Ask) (h k : Option Addr × Nat × Nat) : Value := .agg #[.int .i64 a.code, .int .i64 a.addr, .int .i64 a.count, .int .i64 a.to, .slice h.1 h.2.1 h.2.2, .slice k.1 k.2.1 k.2.2, u16v a.and_, u16v a.or_]
structure AskIn (w : World) (a : Ask) (h k : Option Addr × Nat × Nat) : Prop where
  hn : a.words.length = h.2.1
  hc : h.2.1 ≤ h.2.2
  hm : h.2.2 ≤ maxLen
  hl : Lies u16v w h.1 a.words
  kn : a.bits.length = k.2.1
  kc : k.2.1 ≤ k.2.2
  km : k.2.2 ≤ maxLen
  kl : Lies bitv w k.1 a.bits
structure AskNums (a : Ask) : Prop where
  c0 : -9223372036854775808 ≤ a.code
  c1 : a.code ≤ 9223372036854775807
  a0 : -9223372036854775808 ≤ a.addr
  a1 : a.addr ≤ 9223372036854775807
  n0 : -9223372036854775808 ≤ a.count
  n1 : a.count ≤ 9223372036854775807
  t0 : -9223372036854775808 ≤ a.to
  t1 : a.to ≤ 9223372036854775807
theorem AskIn.below {w w' : World} {a : Ask} {h k : Option Addr × Nat × Nat} (x : AskIn w a h k) (hb : Below w.heap.size w w') : AskIn w' a h k :=
  ⟨x.hn, x.hc, x.hm, x.hl.below hb (Nat.le_refl _), x.kn, x.kc, x.km, x.kl.below hb (Nat.le_refl _)⟩

set_option maxRecDepth 100000 in
set_option maxHeartbeats 1000000 in
theorem rmost_any (c : Int) (w : World) : Calls Tryz.prog 75 #[.int .i64 c] w fun e w' => e = .returned (.tuple #[.int .i64 (Ak.most c).1, .int .i64 (Ak.most c).2.1, .int .i64 (Ak.most c).2.2]) ∧ w' = w := by
  go_enter Tryz.func75, Tryz.ntmps75
  go_wp2
  all_goals refine bodyPost_ret_by (v := .tuple #[.int .i64 (Ak.most c).1, .int .i64 (Ak.most c).2.1, .int .i64 (Ak.most c).2.2]) (by simp_all [results, Tryz.f75, go_sem, Ak.most]) rfl ?_
  all_goals exact ⟨rfl, rfl⟩
set_option maxRecDepth 100000 in
set_option maxHeartbeats 1000000 in
theorem rfits_any (n m : Int) (w : World) : Calls Tryz.prog 77 #[.int .i64 n, .int .i64 m] w fun e w' => e = .returned (.bool (Ak.fits n m)) ∧ w' = w := by
  unfold Ak.fits
  go_enter Tryz.func77, Tryz.ntmps77
  go_wp2
  all_goals go_ret
  all_goals refine ⟨?_, rfl⟩
  all_goals congr 2
  all_goals (first | (simp_all; done) | (simp_all; omega))
theorem code_at (j : Nat) (hj : j < 11) : ∃ c, Ak.codes[j]? = some c := ⟨_, List.getElem?_eq_getElem (by simpa [Ak.codes] using hj)⟩
set_option maxRecDepth 100000 in
set_option maxHeartbeats 1000000 in
theorem ris_any (c : Int) (w : World) : Calls Tryz.prog 76 #[.int .i64 c] w fun e w' => e = .returned (.bool (Ak.isC c)) ∧ Below w.heap.size w w' := by
  go_enter Tryz.func76, Tryz.ntmps76
  go_wp2
  have hL := lies_at (f := fun z : Int => Value.int .i64 z) w #[.int .i64 1, .int .i64 2, .int .i64 3, .int .i64 4, .int .i64 5, .int .i64 6, .int .i64 15, .int .i64 16, .int .i64 22, .int .i64 23, .int .i64 43] 3 w.heap.size Ak.codes rfl rfl
  have hb : Below w.heap.size w (w.alloc (.cells #[.int .i64 1, .int .i64 2, .int .i64 3, .int .i64 4, .int .i64 5, .int .i64 6, .int .i64 15, .int .i64 16, .int .i64 22, .int .i64 23, .int .i64 43] 3)) := (Below.refl _ _).alloc (Nat.le_refl _) _
  generalize w.alloc (.cells #[.int .i64 1, .int .i64 2, .int .i64 3, .int .i64 4, .int .i64 5, .int .i64 6, .int .i64 15, .int .i64 16, .int .i64 22, .int .i64 23, .int .i64 43] 3) = W at *
  have HB := Lib.hid hb
  have hlen : Ak.codes.length = 11 := rfl
  clear hb
  go_loopw [4] (fun i wr => ∃ j : Nat, j ≤ 11 ∧ i = .int .i64 j ∧ (∀ k, k < j → Ak.codes[k]? ≠ some c) ∧ wr = W) (fun i _ => 11 - (intOf i).toNat)
  case atStart => exact ⟨0, by omega, rfl, fun k hk => by omega, rfl⟩
  case round =>
    obtain ⟨j, hj, rfl, hne, rfl⟩ := hrel
    have HNE := Lib.hid hne
    clear hne
    by_cases hlt : j < 11
    · have hc := hL.row j (by rw [hlen]; exact hlt)
      rw [Nat.zero_add] at hc
      obtain ⟨x, hx⟩ : ∃ x, Ak.codes[j]? = some x := code_at j hlt
      have hx' : Ak.codes[j]'(by rw [hlen]; exact hlt) = x := by rw [List.getElem?_eq_getElem (by rw [hlen]; exact hlt)] at hx; exact Option.some.inj hx
      rw [hx'] at hc
      have HX := Lib.hid hx
      clear hx hx' hL hlen
      have i1 : (j : Int) < 11 := by omega
      by_cases he : x = c
      · have HI : Hid (Ak.isC c = true) := Lib.hid (by
          unfold Ak.isC
          rw [decide_eq_true]
          exact List.mem_of_getElem? (he ▸ HX.out))
        subst he
        go_wp2
        go_ret
        exact ⟨by rw [HI.out]; rfl, HB.out⟩
      · have he' : (x == c) = false := by rw [beq_eq_false_iff_ne]; exact he
        go_wp2
        go_roundw
        case rel => exact ⟨j + 1, by omega, by go_num, fun k hk e => by
          rcases Nat.lt_or_ge k j with h1 | h1
          · exact HNE.out k h1 e
          · obtain rfl : k = j := by omega
            rw [HX.out] at e
            exact he (Option.some.inj e), trivial⟩
        case measure => simp [intOf]; omega
    · obtain rfl : j = 11 := by omega
      have HI : Hid (Ak.isC c = false) := Lib.hid (by
        unfold Ak.isC
        rw [decide_eq_false]
        intro hm
        obtain ⟨k, hk, e⟩ := List.getElem_of_mem hm
        exact HNE.out k (by rw [hlen] at hk; exact hk) (by rw [List.getElem?_eq_getElem hk, e]))
      go_wp2
      go_ret
      exact ⟨by rw [HI.out]; rfl, HB.out⟩

/-- Two bytes of a number. -/
def Ak.two (n : Int) : List UInt8 := [UInt8.ofNat (n.toNat / 256), UInt8.ofNat (n.toNat % 256)]
theorem Ak.two_map (n : Nat) (h : n < 65536) : (Ak.two (n : Int)).map u8v = [.int .u8 ((n / 256 : Nat) : Int), .int .u8 ((n % 256 : Nat) : Int)] := by
  unfold Ak.two u8v
  simp only [List.map_cons, List.map_nil, Int.toNat_natCast, UInt8.toNat_ofNat']
  rw [Nat.mod_eq_of_lt (show n / 256 < 2 ^ 8 by omega), Nat.mod_eq_of_lt (show n % 256 < 2 ^ 8 by omega)]
set_option maxRecDepth 100000 in
set_option maxHeartbeats 1000000 in
theorem rtwo_any (n : Int) (h0 : 0 ≤ n) (h1 : n < 65536) (w : World) : Calls Tryz.prog 113 #[.int .i64 n] w fun e w' => e = .returned (.slice (some ⟨w.heap.size, 0, none⟩) 2 2) ∧ Lies u8v w' (some ⟨w.heap.size, 0, none⟩) (Ak.two n) ∧ Below w.heap.size w w' := by
  obtain ⟨m, rfl⟩ := Int.eq_ofNat_of_zero_le h0
  have hm : m < 65536 := by omega
  have H := Lib.hid (Ak.two_map m hm)
  go_enter Tryz.func113, Tryz.ntmps113
  go_wp2
  go_ret
  refine ⟨rfl, ?_, (Below.refl _ w).alloc (Nat.le_refl _) _⟩
  exact lies_at w _ _ _ _ (by rw [H.out]; rfl) rfl
end Go.Proofs.YtcbkbdoaaaofjaaGreat
