
/-
  Plain mathematics of words and bits: no program.
-/
import Derived.Test.YtcbkbdoaaaofjaaGreatMem
namespace Go.Proofs.YtcbkbdoaaaofjaaGreat

namespace Word
/-- A word's bytes, the higher one first. -/
def two (n : UInt16) : List UInt8 := [UInt8.ofNat (n.toNat / 256), UInt8.ofNat (n.toNat % 256)]
def bytes (l : List UInt16) : List UInt8 := l.flatMap two
def word (a b : UInt8) : UInt16 := UInt16.ofNat (256 * a.toNat + b.toNat)
/-- Word number k of the bytes. -/
def wordAt (l : List UInt8) (k : Nat) : UInt16 := word (l.getD (2 * k) 0) (l.getD (2 * k + 1) 0)
def words (l : List UInt8) : List UInt16 := (List.range (l.length / 2)).map (wordAt l)
def isWords (l : List UInt8) : Bool := l.length % 2 == 0
def ansWords (l : List UInt8) : List UInt16 := if isWords l then words l else []

theorem bytes_length (l : List UInt16) : (bytes l).length = 2 * l.length := by
  induction l with
  | nil => rfl
  | cons a l ih => simp only [bytes, List.flatMap_cons, List.length_append, List.length_cons] at ih ⊢; rw [ih]; simp [two]; omega
theorem bytes_snoc (l : List UInt16) (x : UInt16) : bytes (l ++ [x]) = bytes l ++ two x := by simp [bytes]
theorem bytes_cons (l : List UInt16) (x : UInt16) : bytes (x :: l) = UInt8.ofNat (x.toNat / 256) :: UInt8.ofNat (x.toNat % 256) :: bytes l := by simp [bytes, two]
theorem word_two (x : UInt16) : word (UInt8.ofNat (x.toNat / 256)) (UInt8.ofNat (x.toNat % 256)) = x := by
  have h := x.toNat_lt
  apply UInt16.toNat_inj.1
  unfold word
  rw [UInt16.toNat_ofNat', UInt8.toNat_ofNat', UInt8.toNat_ofNat']
  omega
theorem words_length (l : List UInt8) : (words l).length = l.length / 2 := by simp [words]
theorem words_bytes (l : List UInt16) : words (bytes l) = l := by
  induction l with
  | nil => rfl
  | cons a l ih =>
    unfold words at ih ⊢
    rw [bytes_length] at ih ⊢
    rw [List.length_cons, show 2 * (l.length + 1) / 2 = l.length + 1 by omega, List.range_succ_eq_map, List.map_cons, List.map_map]
    rw [show 2 * l.length / 2 = l.length by omega] at ih
    refine List.cons_eq_cons.2 ⟨?_, ?_⟩
    · rw [bytes_cons]
      exact word_two a
    · refine Eq.trans (List.map_congr_left fun k _ => ?_) ih
      show wordAt (bytes (a :: l)) (k + 1) = wordAt (bytes l) k
      rw [bytes_cons]
      unfold wordAt
      rw [show 2 * (k + 1) = 2 * k + 1 + 1 by omega]
      rfl
theorem isWords_bytes (l : List UInt16) : isWords (bytes l) = true := by unfold isWords; rw [bytes_length]; simp
theorem ans_bytes (l : List UInt16) : ansWords (bytes l) = l := by unfold ansWords; rw [isWords_bytes, if_pos rfl, words_bytes]
theorem two_length (x : UInt16) : (two x).length = 2 := rfl

/-- Bits as a number, the first one the lowest. -/
def val : List Bool → Nat
  | [] => 0
  | b :: r => b.toNat + 2 * val r
theorem val_lt (l : List Bool) : val l < 2 ^ l.length := by
  induction l with
  | nil => simp [val]
  | cons b r ih => rw [List.length_cons, Nat.pow_succ, val]; cases b <;> simp <;> omega
theorem val_snoc (l : List Bool) (b : Bool) : val (l ++ [b]) = val l + 2 ^ l.length * b.toNat := by
  induction l with
  | nil => simp [val]
  | cons c r ih => rw [List.cons_append, val, val, ih, List.length_cons, Nat.pow_succ, Nat.mul_add, Nat.mul_comm (2 ^ r.length) 2, Nat.mul_assoc]; omega
theorem val_range (x m : Nat) : val ((List.range m).map fun j => decide (x / 2 ^ j % 2 = 1)) = x % 2 ^ m := by
  induction m with
  | zero => simp [val, Nat.mod_one]
  | succ m ih =>
    rw [List.range_succ, List.map_append, List.map_cons, List.map_nil, val_snoc, ih, Nat.mod_pow_succ, List.length_map, List.length_range]
    congr 2
    rcases Nat.mod_two_eq_zero_or_one (x / 2 ^ m) with h | h <;> simp [h]
theorem val_small (l : List Bool) (h : l.length ≤ 8) : val l < 256 := Nat.lt_of_lt_of_le (val_lt l) (by have := Nat.pow_le_pow_right (n := 2) (by omega) h; omega)

/-- Byte number k of packed bits. -/
def packAt (l : List Bool) (k : Nat) : UInt8 := UInt8.ofNat (val ((l.drop (8 * k)).take 8))
def pack (l : List Bool) : List UInt8 := (List.range ((l.length + 7) / 8)).map (packAt l)
theorem pack_length (l : List Bool) : (pack l).length = (l.length + 7) / 8 := by simp [pack]
theorem packAt_toNat (l : List Bool) (k : Nat) : (packAt l k).toNat = val ((l.drop (8 * k)).take 8) := by
  have := val_small ((l.drop (8 * k)).take 8) (by rw [List.length_take]; omega)
  rw [packAt, UInt8.toNat_ofNat']
  omega

/-- Bit number i of the bytes. -/
def bitAt (b : List UInt8) (i : Nat) : Bool := decide ((b.getD (i / 8) 0).toNat / 2 ^ (i % 8) % 2 = 1)
def bitsOf (b : List UInt8) (n : Nat) : List Bool := (List.range n).map (bitAt b)
/-- Are the n bits whose bytes b is any? -/
def isBits (b : List UInt8) (n : Nat) : Bool := b.length == (n + 7) / 8 && (n % 8 == 0 || (b.getD (n / 8) 0).toNat / 2 ^ (n % 8) == 0)
def ansBits (b : List UInt8) (n : Nat) : List Bool := if isBits b n then bitsOf b n else []
theorem bitsOf_length (b : List UInt8) (n : Nat) : (bitsOf b n).length = n := by simp [bitsOf]
theorem packAt_bitsOf (b : List UInt8) (n k : Nat) : (packAt (bitsOf b n) k).toNat = (b.getD k 0).toNat % 2 ^ (min 8 (n - 8 * k)) := by
  rw [packAt_toNat, ← val_range]
  congr 1
  apply List.ext_getElem
  · simp [bitsOf]
  · intro i h1 h2
    simp [bitsOf] at h1
    simp only [bitsOf, List.getElem_take, List.getElem_drop, List.getElem_map, List.getElem_range, bitAt]
    rw [show (8 * k + i) / 8 = k by omega, show (8 * k + i) % 8 = i by omega]
theorem pack_bitsOf (b : List UInt8) (n : Nat) : (pack (bitsOf b n) == b) = isBits b n := by
  rw [Bool.eq_iff_iff, beq_iff_eq, isBits, Bool.and_eq_true, beq_iff_eq, Bool.or_eq_true, beq_iff_eq, beq_iff_eq]
  constructor
  · intro h
    have hl : b.length = (n + 7) / 8 := by have := congrArg List.length h; rw [pack_length, bitsOf_length] at this; exact this.symm
    refine ⟨hl, ?_⟩
    rcases Nat.eq_zero_or_pos (n % 8) with h0 | h0
    · exact .inl h0
    · right
      have hk : n / 8 < (pack (bitsOf b n)).length := by rw [pack_length, bitsOf_length]; omega
      have e1 : (pack (bitsOf b n))[n / 8] = packAt (bitsOf b n) (n / 8) := by simp [pack]
      have e2 : (b.getD (n / 8) 0) = (pack (bitsOf b n))[n / 8] := by have := congrArg (fun z => z.getD (n / 8) 0) h; simp only [List.getD_eq_getElem?_getD, List.getElem?_eq_getElem hk, Option.getD_some] at this; rw [List.getD_eq_getElem?_getD]; exact this.symm
      have e3 := packAt_bitsOf b n (n / 8)
      rw [show min 8 (n - 8 * (n / 8)) = n % 8 by omega] at e3
      rw [← e1, ← e2] at e3
      rw [Nat.div_eq_zero_iff]
      right
      rw [e3]
      exact Nat.mod_lt _ (Nat.two_pow_pos _)
  · rintro ⟨hl, ho⟩
    apply List.ext_getElem
    · rw [pack_length, bitsOf_length, hl]
    · intro k h1 h2
      rw [pack_length, bitsOf_length] at h1
      have e1 : (pack (bitsOf b n))[k]'(by rw [pack_length, bitsOf_length]; exact h1) = packAt (bitsOf b n) k := by simp [pack]
      rw [e1]
      apply UInt8.toNat_inj.1
      rw [packAt_bitsOf, List.getD_eq_getElem?_getD, List.getElem?_eq_getElem h2, Option.getD_some]
      apply Nat.mod_eq_of_lt
      by_cases hf : 8 * k + 8 ≤ n
      · rw [show min 8 (n - 8 * k) = 8 by omega]
        exact (b[k]).toNat_lt
      · have hk : k = n / 8 := by omega
        subst hk
        rcases ho with ho | ho
        · omega
        · rw [List.getD_eq_getElem?_getD, List.getElem?_eq_getElem h2, Option.getD_some, Nat.div_eq_zero_iff] at ho
          rw [show min 8 (n - 8 * (n / 8)) = n % 8 by omega]
          rcases ho with ho | ho
          · exact absurd ho (Nat.pos_iff_ne_zero.1 (Nat.two_pow_pos _))
          · exact ho
theorem bitsOf_pack (l : List Bool) : bitsOf (pack l) l.length = l := by
  apply List.ext_getElem
  · rw [bitsOf_length]
  · intro i h1 h2
    simp only [bitsOf, List.getElem_map, List.getElem_range, bitAt]
    have hk : i / 8 < (pack l).length := by rw [pack_length]; omega
    rw [List.getD_eq_getElem?_getD, List.getElem?_eq_getElem hk, Option.getD_some]
    have e1 : (pack l)[i / 8] = packAt l (i / 8) := by simp [pack]
    rw [e1, packAt_toNat]
    have key : ∀ (l : List Bool) (j : Nat) (h : j < l.length), decide (val l / 2 ^ j % 2 = 1) = l[j] := by
      intro l
      induction l with
      | nil => intro j h; simp at h
      | cons b r ih =>
        intro j h
        cases j with
        | zero => cases b <;> simp [val] <;> omega
        | succ j =>
          have := ih j (by simpa using h)
          rw [List.getElem_cons_succ, ← this, val, Nat.pow_succ, Nat.mul_comm (2 ^ j) 2, ← Nat.div_div_eq_div_mul]
          congr 4
          cases b <;> simp <;> omega
    rw [key _ (i % 8) (by rw [List.length_take, List.length_drop]; omega)]
    rw [List.getElem_take, List.getElem_drop]
    congr 1
    omega
theorem isBits_pack (l : List Bool) : isBits (pack l) l.length = true := by
  rw [← pack_bitsOf, bitsOf_pack]
  simp
theorem ansBits_pack (l : List Bool) : ansBits (pack l) l.length = l := by unfold ansBits; rw [isBits_pack, if_pos rfl, bitsOf_pack]
theorem isBits_length {b : List UInt8} {n : Nat} (h : isBits b n = true) : b.length = (n + 7) / 8 := by
  rw [isBits, Bool.and_eq_true, beq_iff_eq] at h
  exact h.1
end Word
end Go.Proofs.YtcbkbdoaaaofjaaGreat
