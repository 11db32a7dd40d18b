
/-
  Requests: what may be comes back from its bytes; cut off, it is none (the mathematics).
-/
import Derived.Test.YtlgmjnjhdamknaaGreatRask2
namespace Go.Proofs.YtlgmjnjhdamknaaGreat
open Go.RowKit

namespace Ak
theorem two_back (n : Int) (h0 : 0 ≤ n) (h1 : n ≤ 65535) : 256 * (UInt8.ofNat (n.toNat / 256)).toNat + (UInt8.ofNat (n.toNat % 256)).toNat = n.toNat := by
  rw [UInt8.toNat_ofNat', UInt8.toNat_ofNat']
  omega
theorem two_backN (n : Nat) (h1 : n ≤ 65535) : 256 * (UInt8.ofNat (n / 256)).toNat + (UInt8.ofNat (n % 256)).toNat = n := by
  rw [UInt8.toNat_ofNat', UInt8.toNat_ofNat']
  omega
theorem b1_back (n : Nat) (h : n < 256) : (b1 n).toNat = n := by unfold b1; rw [UInt8.toNat_ofNat']; omega
theorem num_one (x y z : UInt8) (r : List UInt8) : num (x :: y :: z :: r) 1 = 256 * y.toNat + z.toNat := by unfold num; rw [if_neg (by simp only [List.length_cons]; omega)]; rfl
theorem num_three (x y z u v : UInt8) (r : List UInt8) : num (x :: y :: z :: u :: v :: r) 3 = 256 * u.toNat + v.toNat := by unfold num; rw [if_neg (by simp only [List.length_cons]; omega)]; rfl
theorem num_five (x y z u v s t : UInt8) (r : List UInt8) : num (x :: y :: z :: u :: v :: s :: t :: r) 5 = 256 * s.toNat + t.toNat := by unfold num; rw [if_neg (by simp only [List.length_cons]; omega)]; rfl
theorem num_seven (x y z u v s t p q : UInt8) (r : List UInt8) : num (x :: y :: z :: u :: v :: s :: t :: p :: q :: r) 7 = 256 * p.toNat + q.toNat := by unfold num; rw [if_neg (by simp only [List.length_cons]; omega)]; rfl

/-- What a request that is formed is, by its code. -/
theorem formed_parts {a : Ask} (h : formed a = true) : a.code ∈ codes ∧ fits a.count (most a.code).1 = true ∧ fits a.words.length (most a.code).2.1 = true ∧ fits a.bits.length (most a.code).2.2 = true ∧ (a.code ≠ 22 → a.and_ = 0 ∧ a.or_ = 0) ∧ (a.code ≠ 23 → a.to = 0) ∧ 0 ≤ a.addr ∧ a.addr ≤ 65535 ∧ 0 ≤ a.to ∧ a.to ≤ 65535 ∧ (a.code = 43 → a.addr ≤ 255) := by
  unfold formed at h
  simp only [Bool.and_eq_true, decide_eq_true_eq, isC, Bool.not_eq_true', Bool.or_eq_false_iff, Bool.and_eq_false_iff, Bool.or_eq_true, bne_eq_false_iff_eq, bne_iff_ne, ne_eq] at h
  obtain ⟨⟨⟨⟨⟨h1, h2⟩, h3⟩, h4⟩, h5, h6⟩, ⟨⟨⟨g1, g2⟩, g3⟩, g4⟩, g5⟩ := h
  refine ⟨h1, h2, h3, h4, fun hc => ?_, fun hc => ?_, g1, g2, g3, g4, fun hc => ?_⟩
  · rcases h5 with h5 | h5
    · exact absurd h5 hc
    · exact h5
  · rcases h6 with h6 | h6
    · exact absurd h6 hc
    · exact h6
  · rcases g5 with g5 | g5
    · exact absurd hc g5
    · exact g5
theorem fits_zero {n : Int} (h : fits n 0 = true) (h0 : 0 ≤ n) : n = 0 := by
  have := fits_le h (by omega)
  omega
theorem fits_most {n m : Int} (h : fits n m = true) (hm : 0 < m) : 1 ≤ n ∧ n ≤ m := by
  unfold fits at h
  simp only [Bool.or_eq_true, Bool.and_eq_true, beq_iff_eq, decide_eq_true_eq] at h
  rcases h with ⟨rfl, h⟩ | h <;> omega
theorem len_zero {α : Type} {l : List α} (h : fits l.length 0 = true) : l = [] := List.eq_nil_of_length_eq_zero (by have := fits_zero h (by omega); omega)

def hi (n : Int) : UInt8 := UInt8.ofNat (n.toNat / 256)
def lo (n : Int) : UInt8 := UInt8.ofNat (n.toNat % 256)
theorem two_eq (n : Int) : two n = [hi n, lo n] := rfl
theorem hilo (n : Int) (h0 : 0 ≤ n) (h1 : n ≤ 65535) : ((256 * (hi n).toNat + (lo n).toNat : Nat) : Int) = n := by
  unfold hi lo
  rw [two_back n h0 h1]
  omega
theorem hiloN (n : Nat) (h1 : n ≤ 65535) : 256 * (hi (n : Int)).toNat + (lo (n : Int)).toNat = n := by
  have := hilo (n : Int) (by omega) (by omega)
  omega
theorem word_hilo (x : UInt16) : UInt16.ofNat (256 * (hi (x.toNat : Int)).toNat + (lo (x.toNat : Int)).toNat) = x := by
  rw [hiloN _ (by have := x.toNat_lt; omega)]
  exact UInt16.ofNat_toNat
theorem word_two (x : UInt16) : Word.two x = [hi (x.toNat : Int), lo (x.toNat : Int)] := rfl
/-- A code's first byte. -/
theorem b1_code {c : Int} (h : c ∈ codes) : ((b1 c.toNat).toNat : Int) = c := by
  simp only [codes, List.mem_cons, List.not_mem_nil, or_false] at h
  rcases h with rfl | rfl | rfl | rfl | rfl | rfl | rfl | rfl | rfl | rfl | rfl <;> rfl

theorem text_count (c : Int) (hc : c = 1 ∨ c = 2 ∨ c = 3 ∨ c = 4) (addr count : Int) : text ⟨c, addr, count, 0, [], [], 0, 0⟩ = [b1 c.toNat, hi addr, lo addr, hi count, lo count] := by
  unfold text
  rw [if_pos hc]
  rfl
theorem text_five (addr : Int) (b : Bool) : text ⟨5, addr, 0, 0, [], [b], 0, 0⟩ = [5, hi addr, lo addr, if b then 255 else 0, 0] := by
  cases b <;> rfl
theorem text_six (addr : Int) (x : UInt16) : text ⟨6, addr, 0, 0, [x], [], 0, 0⟩ = [6, hi addr, lo addr, hi (x.toNat : Int), lo (x.toNat : Int)] := rfl
theorem text_bits (addr : Int) (l : List Bool) : text ⟨15, addr, 0, 0, [], l, 0, 0⟩ = 15 :: hi addr :: lo addr :: hi (l.length : Int) :: lo (l.length : Int) :: b1 (Word.pack l).length :: Word.pack l := rfl
theorem text_words (addr : Int) (l : List UInt16) : text ⟨16, addr, 0, 0, l, [], 0, 0⟩ = 16 :: hi addr :: lo addr :: hi (l.length : Int) :: lo (l.length : Int) :: b1 (Word.bytes l).length :: Word.bytes l := rfl
theorem text_mask (addr : Int) (x y : UInt16) : text ⟨22, addr, 0, 0, [], [], x, y⟩ = [22, hi addr, lo addr, hi (x.toNat : Int), lo (x.toNat : Int), hi (y.toNat : Int), lo (y.toNat : Int)] := rfl
theorem text_both (addr count to : Int) (l : List UInt16) : text ⟨23, addr, count, to, l, [], 0, 0⟩ = 23 :: hi addr :: lo addr :: hi count :: lo count :: hi to :: lo to :: hi (l.length : Int) :: lo (l.length : Int) :: b1 (Word.bytes l).length :: Word.bytes l := rfl
theorem text_ident (addr count : Int) : text ⟨43, addr, count, 0, [], [], 0, 0⟩ = [43, 14, b1 count.toNat, b1 addr.toNat] := rfl

/-- The shapes of what is formed. -/
inductive Shape : Ask → Prop
  | count (c addr n : Int) (hc : c = 1 ∨ c = 2 ∨ c = 3 ∨ c = 4) (h0 : 0 ≤ addr) (h1 : addr ≤ 65535) (n0 : 1 ≤ n) (n1 : n ≤ 2000) : Shape ⟨c, addr, n, 0, [], [], 0, 0⟩
  | five (addr : Int) (b : Bool) (h0 : 0 ≤ addr) (h1 : addr ≤ 65535) : Shape ⟨5, addr, 0, 0, [], [b], 0, 0⟩
  | six (addr : Int) (x : UInt16) (h0 : 0 ≤ addr) (h1 : addr ≤ 65535) : Shape ⟨6, addr, 0, 0, [x], [], 0, 0⟩
  | bits (addr : Int) (l : List Bool) (h0 : 0 ≤ addr) (h1 : addr ≤ 65535) (l0 : 1 ≤ l.length) (l1 : l.length ≤ 1968) : Shape ⟨15, addr, 0, 0, [], l, 0, 0⟩
  | words (addr : Int) (l : List UInt16) (h0 : 0 ≤ addr) (h1 : addr ≤ 65535) (l0 : 1 ≤ l.length) (l1 : l.length ≤ 123) : Shape ⟨16, addr, 0, 0, l, [], 0, 0⟩
  | mask (addr : Int) (x y : UInt16) (h0 : 0 ≤ addr) (h1 : addr ≤ 65535) : Shape ⟨22, addr, 0, 0, [], [], x, y⟩
  | both (addr n to : Int) (l : List UInt16) (h0 : 0 ≤ addr) (h1 : addr ≤ 65535) (n0 : 1 ≤ n) (n1 : n ≤ 125) (t0 : 0 ≤ to) (t1 : to ≤ 65535) (l0 : 1 ≤ l.length) (l1 : l.length ≤ 121) : Shape ⟨23, addr, n, to, l, [], 0, 0⟩
  | ident (addr n : Int) (h0 : 0 ≤ addr) (h1 : addr ≤ 255) (n0 : 1 ≤ n) (n1 : n ≤ 4) : Shape ⟨43, addr, n, 0, [], [], 0, 0⟩
theorem shape {a : Ask} (h : formed a = true) : Shape a := by
  obtain ⟨hc, hn, hw, hb, hao, hto, a0, a1, t0, t1, h43⟩ := formed_parts h
  obtain ⟨code, addr, count, to, words, bits, and_, or_⟩ := a
  simp only at *
  simp only [codes, List.mem_cons, List.not_mem_nil, or_false] at hc
  have cnt : (code = 1 ∨ code = 2 ∨ code = 3 ∨ code = 4) → Shape ⟨code, addr, count, to, words, bits, and_, or_⟩ := by
    intro hc
    obtain ⟨rfl, rfl⟩ := hao (by omega)
    obtain rfl := hto (by omega)
    have hm : (most code).1 ≤ 2000 ∧ 0 < (most code).1 ∧ (most code).2.1 = 0 ∧ (most code).2.2 = 0 := by rcases hc with rfl | rfl | rfl | rfl <;> decide
    obtain ⟨m1, m2, m3, m4⟩ := hm
    rw [m3] at hw
    rw [m4] at hb
    obtain rfl := len_zero hw
    obtain rfl := len_zero hb
    have := fits_most hn m2
    exact .count code addr count hc a0 a1 this.1 (by omega)
  rcases hc with hc | hc | hc | hc | rfl | rfl | rfl | rfl | rfl | rfl | rfl
  · exact cnt (by omega)
  · exact cnt (by omega)
  · exact cnt (by omega)
  · exact cnt (by omega)
  · obtain ⟨rfl, rfl⟩ := hao (by omega)
    obtain rfl := hto (by omega)
    obtain rfl := len_zero (α := UInt16) hw
    have hl := fits_most (m := 1) hb (by omega)
    obtain rfl : count = 0 := by have := fits_le (m := 0) hn (by omega); omega
    obtain ⟨b, rfl⟩ := List.length_eq_one_iff.1 (show bits.length = 1 by omega)
    exact .five addr b a0 a1
  · obtain ⟨rfl, rfl⟩ := hao (by omega)
    obtain rfl := hto (by omega)
    obtain rfl := len_zero (α := Bool) hb
    have hl := fits_most (m := 1) hw (by omega)
    obtain rfl : count = 0 := by have := fits_le (m := 0) hn (by omega); omega
    obtain ⟨b, rfl⟩ := List.length_eq_one_iff.1 (show words.length = 1 by omega)
    exact .six addr b a0 a1
  · obtain ⟨rfl, rfl⟩ := hao (by omega)
    obtain rfl := hto (by omega)
    obtain rfl := len_zero (α := UInt16) hw
    have hl := fits_most (m := 1968) hb (by omega)
    obtain rfl : count = 0 := by have := fits_le (m := 0) hn (by omega); omega
    exact .bits addr bits a0 a1 (by omega) (by omega)
  · obtain ⟨rfl, rfl⟩ := hao (by omega)
    obtain rfl := hto (by omega)
    obtain rfl := len_zero (α := Bool) hb
    have hl := fits_most (m := 123) hw (by omega)
    obtain rfl : count = 0 := by have := fits_le (m := 0) hn (by omega); omega
    exact .words addr words a0 a1 (by omega) (by omega)
  · obtain rfl := hto (by omega)
    obtain rfl := len_zero (α := Bool) hb
    obtain rfl := len_zero (α := UInt16) hw
    obtain rfl : count = 0 := by have := fits_le (m := 0) hn (by omega); omega
    exact .mask addr and_ or_ a0 a1
  · obtain ⟨rfl, rfl⟩ := hao (by omega)
    obtain rfl := len_zero (α := Bool) hb
    have hl := fits_most (m := 121) hw (by omega)
    have hl2 := fits_most (m := 125) hn (by omega)
    exact .both addr count to words a0 a1 hl2.1 hl2.2 t0 t1 (by omega) (by omega)
  · obtain ⟨rfl, rfl⟩ := hao (by omega)
    obtain rfl := hto (by omega)
    obtain rfl := len_zero (α := UInt16) hw
    obtain rfl := len_zero (α := Bool) hb
    have hl2 := fits_most (m := 4) hn (by omega)
    exact .ident addr count a0 (h43 rfl) hl2.1 hl2.2

theorem guess_text {a : Ask} (h : Shape a) : guess (text a) = a := by
  cases h with
  | count c addr n hc h0 h1 n0 n1 =>
    have hb : ((b1 c.toNat).toNat : Int) = c := b1_code (by simp [codes]; omega)
    have hb' : (b1 c.toNat).toNat = 1 ∨ (b1 c.toNat).toNat = 2 ∨ (b1 c.toNat).toNat = 3 ∨ (b1 c.toNat).toNat = 4 := by omega
    rw [text_count c hc]
    unfold guess
    simp only [List.getD_cons_zero, num_one, num_three]
    rw [if_pos hb', hilo addr h0 h1, hilo n (by omega) (by omega), hb]
    rfl
  | five addr b h0 h1 =>
    rw [text_five]
    unfold guess
    simp only [List.getD_cons_zero, num_one, num_three]
    rw [hilo addr h0 h1]
    cases b <;> rfl
  | six addr x h0 h1 =>
    rw [text_six]
    unfold guess
    simp only [List.getD_cons_zero, num_one, num_three]
    rw [hilo addr h0 h1, word_hilo]
    rfl
  | bits addr l h0 h1 l0 l1 =>
    rw [text_bits]
    unfold guess
    simp only [List.getD_cons_zero, num_one, num_three]
    rw [hilo addr h0 h1, hiloN _ (by omega)]
    have hm : min l.length (8 * (Word.pack l).length) = l.length := by rw [Word.pack_length]; omega
    show Ask.mk 15 addr 0 0 [] (Word.bitsOf (Word.pack l) (min l.length (8 * (Word.pack l).length))) 0 0 = _
    rw [hm, Word.bitsOf_pack]
  | words addr l h0 h1 l0 l1 =>
    rw [text_words]
    unfold guess
    simp only [List.getD_cons_zero, num_one, num_three]
    rw [hilo addr h0 h1]
    show Ask.mk 16 addr 0 0 (Word.ansWords (Word.bytes l)) [] 0 0 = _
    rw [Word.ans_bytes]
  | mask addr x y h0 h1 =>
    rw [text_mask]
    unfold guess
    simp only [List.getD_cons_zero, num_one, num_three, num_five]
    rw [hilo addr h0 h1, word_hilo, word_hilo]
    rfl
  | both addr n to l h0 h1 n0 n1 t0 t1 l0 l1 =>
    rw [text_both]
    unfold guess
    simp only [List.getD_cons_zero, num_one, num_three, num_five]
    rw [hilo addr h0 h1, hilo n (by omega) (by omega), hilo to t0 t1]
    show Ask.mk 23 addr n to (Word.ansWords (Word.bytes l)) [] 0 0 = _
    rw [Word.ans_bytes]
  | ident addr n h0 h1 n0 n1 =>
    rw [text_ident]
    have e1 : (((b1 n.toNat).toNat : Nat) : Int) = n := by rw [b1_back _ (by omega)]; omega
    have e2 : (((b1 addr.toNat).toNat : Nat) : Int) = addr := by rw [b1_back _ (by omega)]; omega
    show Ask.mk 43 ((b1 addr.toNat).toNat : Nat) ((b1 n.toNat).toNat : Nat) 0 [] [] 0 0 = _
    rw [e1, e2]

theorem text_code {a : Ask} (h : Shape a) : (((text a).getD 0 0).toNat : Int) = a.code ∧ a.code ∈ codes := by
  cases h with
  | count c addr n hc h0 h1 n0 n1 => rw [text_count c hc]; exact ⟨b1_code (by simp [codes]; omega), by simp [codes]; omega⟩
  | five addr b h0 h1 => exact ⟨rfl, by simp [codes]⟩
  | six addr x h0 h1 => exact ⟨rfl, by simp [codes]⟩
  | bits addr l h0 h1 l0 l1 => exact ⟨rfl, by simp [codes]⟩
  | words addr l h0 h1 l0 l1 => exact ⟨rfl, by simp [codes]⟩
  | mask addr x y h0 h1 => exact ⟨rfl, by simp [codes]⟩
  | both addr n to l h0 h1 n0 n1 t0 t1 l0 l1 => exact ⟨rfl, by simp [codes]⟩
  | ident addr n h0 h1 n0 n1 => exact ⟨rfl, by simp [codes]⟩
/-- How many bytes there are, by the first ones. -/
def span (b : List UInt8) : Nat :=
  let c := (b.getD 0 0).toNat
  if c = 15 ∨ c = 16 then 6 + (b.getD 5 0).toNat else if c = 23 then 10 + (b.getD 9 0).toNat else if c = 22 then 7 else if c = 43 then 4 else 5
/-- How many of them tell it. -/
def sees (b : List UInt8) : Nat :=
  let c := (b.getD 0 0).toNat
  if c = 15 ∨ c = 16 then 6 else if c = 23 then 10 else 1
theorem text_span {a : Ask} (h : Shape a) : (text a).length = span (text a) ∧ sees (text a) ≤ (text a).length ∧ (text a).length ≤ 252 := by
  cases h with
  | count c addr n hc h0 h1 n0 n1 =>
    rw [text_count c hc]
    rcases hc with rfl | rfl | rfl | rfl <;> exact ⟨rfl, (by show 1 ≤ 5; omega), by simp⟩
  | five addr b h0 h1 => rw [text_five]; exact ⟨rfl, (by show 1 ≤ 5; omega), by simp⟩
  | six addr x h0 h1 => rw [text_six]; exact ⟨rfl, (by show 1 ≤ 5; omega), by simp⟩
  | bits addr l h0 h1 l0 l1 =>
    rw [text_bits]
    have hp := Word.pack_length l
    refine ⟨?_, ?_, ?_⟩
    · show (Word.pack l).length + 6 = 6 + (b1 (Word.pack l).length).toNat
      rw [b1_back _ (by omega)]
      omega
    · show 6 ≤ (Word.pack l).length + 6
      omega
    · show (Word.pack l).length + 6 ≤ 252
      omega
  | words addr l h0 h1 l0 l1 =>
    rw [text_words]
    have hp := Word.bytes_length l
    refine ⟨?_, ?_, ?_⟩
    · show (Word.bytes l).length + 6 = 6 + (b1 (Word.bytes l).length).toNat
      rw [b1_back _ (by omega)]
      omega
    · show 6 ≤ (Word.bytes l).length + 6
      omega
    · show (Word.bytes l).length + 6 ≤ 252
      omega
  | mask addr x y h0 h1 => rw [text_mask]; exact ⟨rfl, (by show 1 ≤ 7; omega), by simp⟩
  | both addr n to l h0 h1 n0 n1 t0 t1 l0 l1 =>
    rw [text_both]
    have hp := Word.bytes_length l
    refine ⟨?_, ?_, ?_⟩
    · show (Word.bytes l).length + 10 = 10 + (b1 (Word.bytes l).length).toNat
      rw [b1_back _ (by omega)]
      omega
    · show 10 ≤ (Word.bytes l).length + 10
      omega
    · show (Word.bytes l).length + 10 ≤ 252
      omega
  | ident addr n h0 h1 n0 n1 => rw [text_ident]; exact ⟨rfl, (by show 1 ≤ 4; omega), by simp⟩
theorem getD_take (b : List UInt8) (k i : Nat) (h : i < k) : (b.take k).getD i 0 = b.getD i 0 := by
  rw [List.getD_eq_getElem?_getD, List.getElem?_take, if_pos h, List.getD_eq_getElem?_getD]
theorem span_take (b : List UInt8) (k : Nat) (h0 : 0 < k) (h : sees (b.take k) ≤ k) : span (b.take k) = span b := by
  have e0 := getD_take b k 0 h0
  unfold sees at h
  unfold span
  rw [e0] at h ⊢
  simp only at h ⊢
  by_cases h1 : (b.getD 0 0).toNat = 15 ∨ (b.getD 0 0).toNat = 16
  · rw [if_pos h1] at h
    rw [if_pos h1, if_pos h1, getD_take b k 5 (by omega)]
  · rw [if_neg h1] at h
    rw [if_neg h1, if_neg h1]
    by_cases h2 : (b.getD 0 0).toNat = 23
    · rw [if_pos h2] at h
      rw [if_pos h2, if_pos h2, getD_take b k 9 (by omega)]
    · rw [if_neg h2, if_neg h2]
/-- No text is a beginning of another one. -/
theorem text_cut {a x : Ask} (h : Shape a) (g : Shape x) (k : Nat) (h0 : 0 < k) (hk : k < (text a).length) : text x ≠ (text a).take k := by
  intro e
  have h1 := text_span h
  have h2 := text_span g
  rw [e] at h2
  have hl : ((text a).take k).length = k := by rw [List.length_take]; omega
  rw [hl] at h2
  have := span_take (text a) k h0 h2.2.1
  omega
theorem second {a : Ask} (h : Shape a) (h43 : (text a).getD 0 0 = 43) : (text a).getD 1 0 = 14 := by
  have hc := (text_code h).1
  rw [h43] at hc
  cases h with
  | count c addr n hc' h0 h1 n0 n1 =>
    have : (43 : Int) = c := hc
    omega
  | five addr b h0 h1 => cases hc
  | six addr x h0 h1 => cases hc
  | bits addr l h0 h1 l0 l1 => cases hc
  | words addr l h0 h1 l0 l1 => cases hc
  | mask addr x y h0 h1 => cases hc
  | both addr n to l h0 h1 n0 n1 t0 t1 l0 l1 => cases hc
  | ident addr n h0 h1 n0 n1 => rfl
theorem parse_head {b : List UInt8} (hb : 0 < b.length) (hc : isC (b.getD 0 0).toNat = true) (h2 : b.getD 0 0 = 43 → b.getD 1 0 = 14 ∨ b.length ≤ 1) :
    parse b = if formed (guess b) = false ∨ text (guess b) ≠ b then (zero, 3) else if placed (guess b) = false then (zero, 2) else (guess b, 0) := by
  unfold parse
  rw [if_neg]
  rintro (h | h | ⟨h3, h4, h5⟩)
  · omega
  · rw [hc] at h; cases h
  · rcases h2 h3 with h6 | h6
    · exact h5 h6
    · omega
theorem text_pos {a : Ask} (h : Shape a) : 0 < (text a).length := by
  have := text_span h
  unfold sees at this
  simp only at this
  split at this
  · omega
  · split at this <;> omega
theorem parse_text {a : Ask} (h : right a = true) : parse (text a) = (a, 0) := by
  unfold right at h
  rw [Bool.and_eq_true] at h
  have hs := shape h.1
  obtain ⟨c1, c2⟩ := text_code hs
  rw [parse_head (text_pos hs) (by unfold isC; rw [c1]; exact decide_eq_true c2) (fun h43 => .inl (second hs h43)), guess_text hs, if_neg, if_neg]
  · rw [h.2]; simp
  · rintro (h' | h')
    · rw [h.1] at h'; cases h'
    · exact h' rfl
theorem parse_cut {a : Ask} (h : right a = true) (k : Nat) (h0 : 0 < k) (hk : k < (text a).length) : parse ((text a).take k) = (zero, 3) := by
  unfold right at h
  rw [Bool.and_eq_true] at h
  have hs := shape h.1
  obtain ⟨c1, c2⟩ := text_code hs
  have hl : ((text a).take k).length = k := by rw [List.length_take]; omega
  have e0 := getD_take (text a) k 0 h0
  rw [parse_head (by omega) (by rw [e0]; unfold isC; rw [c1]; exact decide_eq_true c2) (fun h43 => by
    rw [e0] at h43
    rcases Nat.lt_or_ge 1 k with h1 | h1
    · left; rw [getD_take _ _ _ h1]; exact second hs h43
    · right; omega), if_pos]
  cases hf : formed (guess ((text a).take k)) with
  | false => exact .inl rfl
  | true => exact .inr (text_cut hs (shape hf) k h0 hk)
theorem bytes_most (a : Ask) : (bytes a).length ≤ 252 := by
  unfold bytes
  cases h : right a with
  | false => simp
  | true =>
    unfold right at h
    rw [Bool.and_eq_true] at h
    exact (text_span (shape h.1)).2.2
/-- What is parsed has just these bytes; what is not is the zero request. -/
theorem parse_back (b : List UInt8) : ((parse b).2 = 0 ∧ right (parse b).1 = true ∧ text (parse b).1 = b) ∨ ((parse b).2 ≠ 0 ∧ (parse b).1 = zero) := by
  unfold parse
  split
  · exact .inr ⟨by decide, rfl⟩
  · split
    · exact .inr ⟨by decide, rfl⟩
    · split
      · exact .inr ⟨by decide, rfl⟩
      · next h1 h2 h3 =>
        refine .inl ⟨rfl, ?_, ?_⟩
        · unfold right
          rw [Bool.and_eq_true]
          exact ⟨by simpa using fun h => h2 (.inl h), by simpa using h3⟩
        · exact Decidable.of_not_not fun h => h2 (.inr h)
theorem same_self (a : Ask) : same a a = true := by simp [same]
theorem same_comm (a b : Ask) : same a b = same b a := by
  have e : ∀ {α : Type} [BEq α] [LawfulBEq α] (x y : α), (x == y) = (y == x) := fun x y => by
    rw [Bool.eq_iff_iff, beq_iff_eq, beq_iff_eq]
    exact eq_comm
  unfold same
  rw [e a.code, e a.addr, e a.count, e a.to, e a.and_, e a.or_, e a.words, e a.bits]
theorem same_eq (a b : Ask) : same a b = decide (a = b) := by
  rw [Bool.eq_iff_iff, decide_eq_true_eq]
  constructor
  · intro h
    obtain ⟨_, _, _, _, _, _, _, _⟩ := a
    obtain ⟨_, _, _, _, _, _, _, _⟩ := b
    simp only [same, Bool.and_eq_true, beq_iff_eq] at h
    obtain ⟨⟨⟨⟨⟨⟨⟨rfl, rfl⟩, rfl⟩, rfl⟩, rfl⟩, rfl⟩, rfl⟩, rfl⟩ := h
    rfl
  · rintro rfl
    exact same_self a
end Ak
end Go.Proofs.YtlgmjnjhdamknaaGreat
