
/- A part of the proof of the law MasterDoes. -/
import Derived.Test.YtlgmjnjhdamknaaGreatMem
namespace Go.Proofs.YtlgmjnjhdamknaaGreat

namespace Word
def two (n : UInt16) : List UInt8 := [UInt8.ofNat (n.toNat / 256), UInt8.ofNat (n.toNat % 256)]
def bytes (l : List UInt16) : List UInt8 := l.flatMap two
def word (a b : UInt8) : UInt16 := UInt16.ofNat (256 * a.toNat + b.toNat)
def wordAt (l : List UInt8) (k : Nat) : UInt16 := word (l.getD (2 * k) 0) (l.getD (2 * k + 1) 0)
def words (l : List UInt8) : List UInt16 := (List.range (l.length / 2)).map (wordAt l)
def isWords (l : List UInt8) : Bool := l.length % 2 == 0
def ansWords (l : List UInt8) : List UInt16 := if isWords l then words l else []

theorem bytes_length (l : List UInt16) : (bytes l).length = 2 * l.length := by
  induction l with
  | nil => rfl
  | cons a l ih => simp only [bytes, List.flatMap_cons, List.length_append, List.length_cons] at ih ⊢; rw [ih]; simp [two]; omega
theorem bytes_snoc (l : List UInt16) (x : UInt16) : bytes (l ++ [x]) = bytes l ++ two x := by simp [bytes]
theorem bytes_cons (l : List UInt16) (x : UInt16) : bytes (x :: l) = UInt8.ofNat (x.toNat / 256) :: UInt8.ofNat (x.toNat % 256) :: bytes l := by simp [bytes, two]
theorem word_two (x : UInt16) : word (UInt8.ofNat (x.toNat / 256)) (UInt8.ofNat (x.toNat % 256)) = x := by
  have h := x.toNat_lt
  apply UInt16.toNat_inj.1
  unfold word
  rw [UInt16.toNat_ofNat', UInt8.toNat_ofNat', UInt8.toNat_ofNat']
  omega
theorem words_length (l : List UInt8) : (words l).length = l.length / 2 := by simp [words]
theorem words_bytes (l : List UInt16) : words (bytes l) = l := by
  induction l with
  | nil => rfl
  | cons a l ih =>
    unfold words at ih ⊢
    rw [bytes_length] at ih ⊢
    rw [List.length_cons, show 2 * (l.length + 1) / 2 = l.length + 1 by omega, List.range_succ_eq_map, List.map_cons, List.map_map]
    rw [show 2 * l.length / 2 = l.length by omega] at ih
    refine List.cons_eq_cons.2 ⟨?_, ?_⟩
    · rw [bytes_cons]
      exact word_two a
    · refine Eq.trans (List.map_congr_left fun k _ => ?_) ih
      show wordAt (bytes (a :: l)) (k + 1) = wordAt (bytes l) k
      rw [bytes_cons]
      unfold wordAt
      rw [show 2 * (k + 1) = 2 * k + 1 + 1 by omega]
      rfl
theorem isWords_bytes (l : List UInt16) : isWords (bytes l) = true := by unfold isWords; rw [bytes_length]; simp
theorem ans_bytes (l : List UInt16) : ansWords (bytes l) = l := by unfold ansWords; rw [isWords_bytes, if_pos rfl, words_bytes]
def val : List Bool → Nat
  | [] => 0
  | b :: r => b.toNat + 2 * val r
theorem val_lt (l : List Bool) : val l < 2 ^ l.length := by
  induction l with
  | nil => simp [val]
  | cons b r ih => rw [List.length_cons, Nat.pow_succ, val]; cases b <;> simp <;> omega
theorem val_snoc (l : List Bool) (b : Bool) : val (l ++ [b]) = val l + 2 ^ l.length * b.toNat := by
  induction l with
  | nil => simp [val]
  | cons c r ih => rw [List.cons_append, val, val, ih, List.length_cons, Nat.pow_succ, Nat.mul_add, Nat.mul_comm (2 ^ r.length) 2, Nat.mul_assoc]; omega
theorem val_range (x m : Nat) : val ((List.range m).map fun j => decide (x / 2 ^ j % 2 = 1)) = x % 2 ^ m := by
  induction m with
  | zero => simp [val, Nat.mod_one]
  | succ m ih =>
    rw [List.range_succ, List.map_append, List.map_cons, List.map_nil, val_snoc, ih, Nat.mod_pow_succ, List.length_map, List.length_range]
    congr 2
    rcases Nat.mod_two_eq_zero_or_one (x / 2 ^ m) with h | h <;> simp [h]
theorem val_small (l : List Bool) (h : l.length ≤ 8) : val l < 256 := Nat.lt_of_lt_of_le (val_lt l) (by have := Nat.pow_le_pow_right (n := 2) (by omega) h; omega)

def packAt (l : List Bool) (k : Nat) : UInt8 := UInt8.ofNat (val ((l.drop (8 * k)).take 8))
def pack (l : List Bool) : List UInt8 := (List.range ((l.length + 7) / 8)).map (packAt l)
theorem pack_length (l : List Bool) : (pack l).length = (l.length + 7) / 8 := by simp [pack]
theorem packAt_toNat (l : List Bool) (k : Nat) : (packAt l k).toNat = val ((l.drop (8 * k)).take 8) := by
  have := val_small ((l.drop (8 * k)).take 8) (by rw [List.length_take]; omega)
  rw [packAt, UInt8.toNat_ofNat']
  omega

def bitAt (b : List UInt8) (i : Nat) : Bool := decide ((b.getD (i / 8) 0).toNat / 2 ^ (i % 8) % 2 = 1)
def bitsOf (b : List UInt8) (n : Nat) : List Bool := (List.range n).map (bitAt b)
def isBits (b : List UInt8) (n : Nat) : Bool := b.length == (n + 7) / 8 && (n % 8 == 0 || (b.getD (n / 8) 0).toNat / 2 ^ (n % 8) == 0)
theorem bitsOf_length (b : List UInt8) (n : Nat) : (bitsOf b n).length = n := by simp [bitsOf]
theorem packAt_bitsOf (b : List UInt8) (n k : Nat) : (packAt (bitsOf b n) k).toNat = (b.getD k 0).toNat % 2 ^ (min 8 (n - 8 * k)) := by
  rw [packAt_toNat, ← val_range]
  congr 1
  apply List.ext_getElem
  · simp [bitsOf]
  · intro i h1 h2
    simp [bitsOf] at h1
    simp only [bitsOf, List.getElem_take, List.getElem_drop, List.getElem_map, List.getElem_range, bitAt]
    rw [show (8 * k + i) / 8 = k by omega, show (8 * k + i) % 8 = i by omega]
theorem pack_bitsOf (b : List UInt8) (n : Nat) : (pack (bitsOf b n) == b) = isBits b n := by
  rw [Bool.eq_iff_iff, beq_iff_eq, isBits, Bool.and_eq_true, beq_iff_eq, Bool.or_eq_true, beq_iff_eq, beq_iff_eq]
  constructor
  · intro h
    have hl : b.length = (n + 7) / 8 := by have := congrArg List.length h; rw [pack_length, bitsOf_length] at this; exact this.symm
    refine ⟨hl, ?_⟩
    rcases Nat.eq_zero_or_pos (n % 8) with h0 | h0
    · exact .inl h0
    · right
      have hk : n / 8 < (pack (bitsOf b n)).length := by rw [pack_length, bitsOf_length]; omega
      have e1 : (pack (bitsOf b n))[n / 8] = packAt (bitsOf b n) (n / 8) := by simp [pack]
      have e2 : (b.getD (n / 8) 0) = (pack (bitsOf b n))[n / 8] := by have := congrArg (fun z => z.getD (n / 8) 0) h; simp only [List.getD_eq_getElem?_getD, List.getElem?_eq_getElem hk, Option.getD_some] at this; rw [List.getD_eq_getElem?_getD]; exact this.symm
      have e3 := packAt_bitsOf b n (n / 8)
      rw [show min 8 (n - 8 * (n / 8)) = n % 8 by omega] at e3
      rw [← e1, ← e2] at e3
      rw [Nat.div_eq_zero_iff]
      right
      rw [e3]
      exact Nat.mod_lt _ (Nat.two_pow_pos _)
  · rintro ⟨hl, ho⟩
    apply List.ext_getElem
    · rw [pack_length, bitsOf_length, hl]
    · intro k h1 h2
      rw [pack_length, bitsOf_length] at h1
      have e1 : (pack (bitsOf b n))[k]'(by rw [pack_length, bitsOf_length]; exact h1) = packAt (bitsOf b n) k := by simp [pack]
      rw [e1]
      apply UInt8.toNat_inj.1
      rw [packAt_bitsOf, List.getD_eq_getElem?_getD, List.getElem?_eq_getElem h2, Option.getD_some]
      apply Nat.mod_eq_of_lt
      by_cases hf : 8 * k + 8 ≤ n
      · rw [show min 8 (n - 8 * k) = 8 by omega]
        exact (b[k]).toNat_lt
      · have hk : k = n / 8 := by omega
        subst hk
        rcases ho with ho | ho
        · omega
        · rw [List.getD_eq_getElem?_getD, List.getElem?_eq_getElem h2, Option.getD_some, Nat.div_eq_zero_iff] at ho
          rw [show min 8 (n - 8 * (n / 8)) = n % 8 by omega]
          rcases ho with ho | ho
          · exact absurd ho (Nat.pos_iff_ne_zero.1 (Nat.two_pow_pos _))
          · exact ho
theorem bitsOf_pack (l : List Bool) : bitsOf (pack l) l.length = l := by
  apply List.ext_getElem
  · rw [bitsOf_length]
  · intro i h1 h2
    simp only [bitsOf, List.getElem_map, List.getElem_range, bitAt]
    have hk : i / 8 < (pack l).length := by rw [pack_length]; omega
    rw [List.getD_eq_getElem?_getD, List.getElem?_eq_getElem hk, Option.getD_some]
    have e1 : (pack l)[i / 8] = packAt l (i / 8) := by simp [pack]
    rw [e1, packAt_toNat]
    have key : ∀ (l : List Bool) (j : Nat) (h : j < l.length), decide (val l / 2 ^ j % 2 = 1) = l[j] := by
      intro l
      induction l with
      | nil => intro j h; simp at h
      | cons b r ih =>
        intro j h
        cases j with
        | zero => cases b <;> simp [val] <;> omega
        | succ j =>
          have := ih j (by simpa using h)
          rw [List.getElem_cons_succ, ← this, val, Nat.pow_succ, Nat.mul_comm (2 ^ j) 2, ← Nat.div_div_eq_div_mul]
          congr 4
          cases b <;> simp <;> omega
    rw [key _ (i % 8) (by rw [List.length_take, List.length_drop]; omega)]
    rw [List.getElem_take, List.getElem_drop]
    congr 1
    omega
theorem isBits_pack (l : List Bool) : isBits (pack l) l.length = true := by
  rw [← pack_bitsOf, bitsOf_pack]
  simp
theorem isBits_length {b : List UInt8} {n : Nat} (h : isBits b n = true) : b.length = (n + 7) / 8 := by
  rw [isBits, Bool.and_eq_true, beq_iff_eq] at h
  exact h.1
end Word
end Go.Proofs.YtlgmjnjhdamknaaGreat

namespace Go.Proofs.YtlgmjnjhdamknaaGreat
open Go.RowKit

structure Ask where
  code : Int
  addr : Int
  count : Int
  to : Int
  words : List UInt16
  bits : List Bool
  and_ : UInt16
  or_ : UInt16
  deriving DecidableEq

namespace Ak
def zero : Ask := ⟨0, 0, 0, 0, [], [], 0, 0⟩
def most (c : Int) : Int × Int × Int :=
  if c = 1 ∨ c = 2 then (2000, 0, 0) else if c = 3 ∨ c = 4 then (125, 0, 0) else if c = 5 then (0, 0, 1) else if c = 6 then (0, 1, 0) else if c = 15 then (0, 0, 1968) else if c = 16 then (0, 123, 0) else if c = 23 then (125, 121, 0) else if c = 43 then (4, 0, 0) else (0, 0, 0)
def codes : List Int := [1, 2, 3, 4, 5, 6, 15, 16, 22, 23, 43]
def isC (c : Int) : Bool := decide (c ∈ codes)
def fits (n m : Int) : Bool := n == 0 && m == 0 || decide (1 ≤ n) && decide (n ≤ m)
def formed (a : Ask) : Bool :=
  isC a.code && fits a.count (most a.code).1 && fits a.words.length (most a.code).2.1 && fits a.bits.length (most a.code).2.2 &&
  !(a.code != 22 && (a.and_ != 0 || a.or_ != 0) || a.code != 23 && a.to != 0) &&
  (decide (0 ≤ a.addr) && decide (a.addr ≤ 65535) && decide (0 ≤ a.to) && decide (a.to ≤ 65535) && (a.code != 43 || decide (a.addr ≤ 255)))
def placed (a : Ask) : Bool :=
  if a.code = 23 then decide (a.addr + a.count ≤ 65536) && decide (a.to + a.words.length ≤ 65536)
  else a.code == 43 || decide (a.addr + max (max (max a.count a.bits.length) 1) a.words.length ≤ 65536)
def right (a : Ask) : Bool := formed a && placed a
end Ak

def askV (a : Ask) (h k : Option Addr × Nat × Nat) : Value := .agg #[.int .i64 a.code, .int .i64 a.addr, .int .i64 a.count, .int .i64 a.to, .slice h.1 h.2.1 h.2.2, .slice k.1 k.2.1 k.2.2, u16v a.and_, u16v a.or_]
structure AskIn (w : World) (a : Ask) (h k : Option Addr × Nat × Nat) : Prop where
  hn : a.words.length = h.2.1
  hc : h.2.1 ≤ h.2.2
  hm : h.2.2 ≤ maxLen
  hl : Lies u16v w h.1 a.words
  kn : a.bits.length = k.2.1
  kc : k.2.1 ≤ k.2.2
  km : k.2.2 ≤ maxLen
  kl : Lies bitv w k.1 a.bits
structure AskNums (a : Ask) : Prop where
  c0 : -9223372036854775808 ≤ a.code
  c1 : a.code ≤ 9223372036854775807
  a0 : -9223372036854775808 ≤ a.addr
  a1 : a.addr ≤ 9223372036854775807
  n0 : -9223372036854775808 ≤ a.count
  n1 : a.count ≤ 9223372036854775807
  t0 : -9223372036854775808 ≤ a.to
  t1 : a.to ≤ 9223372036854775807
theorem AskIn.below {w w' : World} {a : Ask} {h k : Option Addr × Nat × Nat} (x : AskIn w a h k) (hb : Below w.heap.size w w') : AskIn w' a h k :=
  ⟨x.hn, x.hc, x.hm, x.hl.below hb (zq _), x.kn, x.kc, x.km, x.kl.below hb (zq _)⟩

set_option maxRecDepth 100000 in
set_option maxHeartbeats 1000000 in
theorem rmost_any (c : Int) (w : World) : Calls Tryz.prog 107 #[.int .i64 c] w fun e w' => e = .returned (.tuple #[.int .i64 (Ak.most c).1, .int .i64 (Ak.most c).2.1, .int .i64 (Ak.most c).2.2]) ∧ w' = w := by
  go_enter Tryz.func107, Tryz.ntmps107
  go_wp2
  all_goals refine bodyPost_ret_by (v := .tuple #[.int .i64 (Ak.most c).1, .int .i64 (Ak.most c).2.1, .int .i64 (Ak.most c).2.2]) (by simp_all [results, Tryz.f107, go_sem, Ak.most]) rfl ?_
  all_goals exact ⟨rfl, rfl⟩
set_option maxRecDepth 100000 in
set_option maxHeartbeats 1000000 in
theorem rfits_any (n m : Int) (w : World) : Calls Tryz.prog 109 #[.int .i64 n, .int .i64 m] w fun e w' => e = .returned (.bool (Ak.fits n m)) ∧ w' = w := by
  unfold Ak.fits
  go_enter Tryz.func109, Tryz.ntmps109
  go_wp2
  all_goals go_ret
  all_goals refine ⟨?_, rfl⟩
  all_goals congr 2
  all_goals (first | (simp_all; done) | (simp_all; omega))
theorem code_at (j : Nat) (hj : j < 11) : ∃ c, Ak.codes[j]? = some c := ⟨_, List.getElem?_eq_getElem (by simpa [Ak.codes] using hj)⟩
set_option maxRecDepth 100000 in
set_option maxHeartbeats 1000000 in
theorem ris_any (c : Int) (w : World) : Calls Tryz.prog 108 #[.int .i64 c] w fun e w' => e = .returned (.bool (Ak.isC c)) ∧ Below w.heap.size w w' := by
  go_enter Tryz.func108, Tryz.ntmps108
  go_wp2
  have hL := lies_at (f := fun z : Int => Value.int .i64 z) w #[.int .i64 1, .int .i64 2, .int .i64 3, .int .i64 4, .int .i64 5, .int .i64 6, .int .i64 15, .int .i64 16, .int .i64 22, .int .i64 23, .int .i64 43] 3 w.heap.size Ak.codes rfl rfl
  have hb : Below w.heap.size w (w.alloc (.cells #[.int .i64 1, .int .i64 2, .int .i64 3, .int .i64 4, .int .i64 5, .int .i64 6, .int .i64 15, .int .i64 16, .int .i64 22, .int .i64 23, .int .i64 43] 3)) := (Below.refl _ _).alloc (zq _) _
  generalize w.alloc (.cells #[.int .i64 1, .int .i64 2, .int .i64 3, .int .i64 4, .int .i64 5, .int .i64 6, .int .i64 15, .int .i64 16, .int .i64 22, .int .i64 23, .int .i64 43] 3) = W at *
  have HB := qh hb
  have hlen : Ak.codes.length = 11 := rfl
  clear hb
  go_loopw [4] (fun i wr => ∃ j : Nat, j ≤ 11 ∧ i = .int .i64 j ∧ (∀ k, k < j → Ak.codes[k]? ≠ some c) ∧ wr = W) (fun i _ => 11 - (intOf i).toNat)
  case atStart => exact ⟨0, by omega, rfl, fun k hk => by omega, rfl⟩
  case round =>
    obtain ⟨j, hj, rfl, hne, rfl⟩ := hrel
    have HNE := qh hne
    clear hne
    by_cases hlt : j < 11
    · have hc := hL.row j (by rw [hlen]; exact hlt)
      rw [Nat.zero_add] at hc
      obtain ⟨x, hx⟩ : ∃ x, Ak.codes[j]? = some x := code_at j hlt
      have hx' : Ak.codes[j]'(by rw [hlen]; exact hlt) = x := by rw [List.getElem?_eq_getElem (by rw [hlen]; exact hlt)] at hx; exact Option.some.inj hx
      rw [hx'] at hc
      have HX := qh hx
      clear hx hx' hL hlen
      have i1 : (j : Int) < 11 := by omega
      by_cases he : x = c
      · have HI : Hid (Ak.isC c = true) := qh (by
          unfold Ak.isC
          rw [decide_eq_true]
          exact List.mem_of_getElem? (he ▸ HX.out))
        subst he
        go_wp2
        go_ret
        exact ⟨by rw [HI.out]; rfl, HB.out⟩
      · have he' : (x == c) = false := by rw [beq_eq_false_iff_ne]; exact he
        go_wp2
        go_roundw
        case rel => exact ⟨j + 1, by omega, by go_num, fun k hk e => by
          rcases Nat.lt_or_ge k j with h1 | h1
          · exact HNE.out k h1 e
          · obtain rfl : k = j := by omega
            rw [HX.out] at e
            exact he (Option.some.inj e), trivial⟩
        case measure => simp [intOf]; omega
    · obtain rfl : j = 11 := by omega
      have HI : Hid (Ak.isC c = false) := qh (by
        unfold Ak.isC
        rw [decide_eq_false]
        intro hm
        obtain ⟨k, hk, e⟩ := List.getElem_of_mem hm
        exact HNE.out k (by rw [hlen] at hk; exact hk) (by rw [List.getElem?_eq_getElem hk, e]))
      go_wp2
      go_ret
      exact ⟨by rw [HI.out]; rfl, HB.out⟩

def Ak.two (n : Int) : List UInt8 := [UInt8.ofNat (n.toNat / 256), UInt8.ofNat (n.toNat % 256)]
theorem Ak.two_map (n : Nat) (h : n < 65536) : (Ak.two (n : Int)).map u8v = [.int .u8 ((n / 256 : Nat) : Int), .int .u8 ((n % 256 : Nat) : Int)] := by
  unfold Ak.two u8v
  simp only [List.map_cons, List.map_nil, Int.toNat_natCast, UInt8.toNat_ofNat']
  rw [Nat.mod_eq_of_lt (show n / 256 < 2 ^ 8 by omega), Nat.mod_eq_of_lt (show n % 256 < 2 ^ 8 by omega)]
set_option maxRecDepth 100000 in
set_option maxHeartbeats 1000000 in
theorem rtwo_any (n : Int) (h0 : 0 ≤ n) (h1 : n < 65536) (w : World) : Calls Tryz.prog 101 #[.int .i64 n] w fun e w' => e = .returned (.slice (some ⟨w.heap.size, 0, none⟩) 2 2) ∧ Lies u8v w' (some ⟨w.heap.size, 0, none⟩) (Ak.two n) ∧ Below w.heap.size w w' := by
  obtain ⟨m, rfl⟩ := Int.eq_ofNat_of_zero_le h0
  have hm : m < 65536 := by omega
  have H := qh (Ak.two_map m hm)
  go_enter Tryz.func101, Tryz.ntmps101
  go_wp2
  go_ret
  refine ⟨rfl, ?_, (Below.refl _ w).alloc (zq _) _⟩
  exact lies_at w _ _ _ _ (by rw [H.out]; rfl) rfl
end Go.Proofs.YtlgmjnjhdamknaaGreat
