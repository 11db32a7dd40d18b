
/-
  The landed ask: Parse by layouts is the document's (the mathematics).
-/
import Derived.Test.YtlgmjnjhdamknaaGreatLn
import Derived.Test.YtlgmjnjhdamknaaGreatRi
namespace Go.Proofs.YtlgmjnjhdamknaaGreat
open Go.RowKit Go.Shelf

namespace PK
/-- A part, taken over. -/
def copy (a a0 : Ask) : PK → Ask
  | num f _ _ _ => f.set a0 (f.get a)
  | mask f => f.set a0 (f.get a)
  | bit => { a0 with bits := a.bits }
  | word => { a0 with words := a.words }
  | bits _ => { a0 with bits := a.bits }
  | words _ => { a0 with words := a.words }
def slot : PK → Nat
  | num f _ _ _ => f.ix
  | mask f => f.ix
  | bit => 5
  | word => 4
  | bits _ => 5
  | words _ => 4
def Good : PK → Prop
  | num _ sz lo hi => (sz = 2 ∨ sz = 1 ∧ hi ≤ 255) ∧ 0 ≤ lo ∧ hi ≤ 65535
  | bits m => m ≤ 1968
  | words m => m ≤ 123
  | _ => True
end PK
theorem layOf_good {c : Int} {L : LK} (h : layOf c = some L) : ∀ p ∈ L.parts, p.Good := by
  have hc := layOf_mem h
  simp only [Ak.codes, List.mem_cons, List.not_mem_nil, or_false] at hc
  rcases hc with rfl | rfl | rfl | rfl | rfl | rfl | rfl | rfl | rfl | rfl | rfl
  all_goals
    cases h
    simp [PK.Good]

theorem cutN_low (x : UInt16) (sz : Nat) (r : List UInt8) (h : sz = 2 ∨ sz = 1 ∧ x.toNat < 256) : cutN (low x sz ++ r) sz = x := by
  rcases h with rfl | ⟨rfl, h⟩
  · show Word.word (UInt8.ofNat (x.toNat / 256)) (UInt8.ofNat (x.toNat % 256)) = x
    exact Word.word_two x
  · show Word.word 0 (UInt8.ofNat (x.toNat % 256)) = x
    have e := Word.word_two x
    rwa [Nat.div_eq_of_lt h] at e
theorem drop_low (x : UInt16) (sz : Nat) (r : List UInt8) (h : sz ≤ 2) : (low x sz ++ r).drop sz = r := by
  rw [List.drop_append_of_le_length (by rw [low_length x sz h]; exact Nat.le_refl _), List.drop_of_length_le (by rw [low_length x sz h]; exact Nat.le_refl _)]
  rfl
theorem two_word (x y : UInt8) : Word.two (Word.word x y) = [x, y] := by
  have hx := x.toNat_lt
  have hy := y.toNat_lt
  unfold Word.two Word.word
  rw [UInt16.toNat_ofNat', Nat.mod_eq_of_lt (by omega)]
  have e1 : (256 * x.toNat + y.toNat) / 256 = x.toNat := by omega
  have e2 : (256 * x.toNat + y.toNat) % 256 = y.toNat := by omega
  rw [e1, e2, UInt8.ofNat_toNat, UInt8.ofNat_toNat]
theorem low_cutN (b : List UInt8) (sz : Nat) (h : sz = 2 ∨ sz = 1) (hl : sz ≤ b.length) : low (cutN b sz) sz = b.take sz := by
  rcases h with rfl | rfl
  · rcases b with _ | ⟨x, _ | ⟨y, r⟩⟩
    · simp at hl
    · simp at hl
    · exact two_word x y
  · rcases b with _ | ⟨x, r⟩
    · simp at hl
    · show (Word.two (Word.word 0 x)).drop 1 = [x]
      rw [two_word]
      rfl
theorem bytes_words (l : List UInt8) (h : Word.isWords l = true) : Word.bytes (Word.words l) = l := by
  have hx : ∀ (k : Nat) (l : List UInt8), l.length = 2 * k → ∃ ws, l = Word.bytes ws := by
    intro k
    induction k with
    | zero => intro l hl; exact ⟨[], List.eq_nil_of_length_eq_zero (by omega)⟩
    | succ k ih =>
      intro l hl
      rcases l with _ | ⟨x, _ | ⟨y, r⟩⟩
      · simp at hl
      · simp at hl; omega
      · obtain ⟨ws, rfl⟩ := ih r (by simp only [List.length_cons] at hl; omega)
        refine ⟨Word.word x y :: ws, ?_⟩
        have e := two_word x y
        rw [Word.bytes_cons]
        unfold Word.two at e
        simp only [List.cons.injEq] at e
        rw [e.1, e.2.1]
  unfold Word.isWords at h
  rw [beq_iff_eq] at h
  obtain ⟨ws, rfl⟩ := hx (l.length / 2) l (by omega)
  rw [Word.words_bytes]

theorem read_num (f : IF) (sz : Nat) (lo hi : Int) (b : List UInt8) (a : Ask) : (PK.num f sz lo hi).read b a = if b.length < sz then none else some (b.drop sz, f.set a ((cutN b sz).toNat : Int)) := rfl
theorem read_mask (f : UF) (b : List UInt8) (a : Ask) : (PK.mask f).read b a = if b.length < 2 then none else some (b.drop 2, f.set a (cutN b 2)) := rfl
theorem read_bit (b : List UInt8) (a : Ask) : PK.bit.read b a = if b.length < 2 then none else if cutN b 2 = 65280 then some (b.drop 2, { a with bits := [true] }) else if cutN b 2 = 0 then some (b.drop 2, { a with bits := [false] }) else none := rfl
theorem read_word (b : List UInt8) (a : Ask) : PK.word.read b a = if b.length < 2 then none else some (b.drop 2, { a with words := [cutN b 2] }) := rfl
theorem read_bits (m : Nat) (b : List UInt8) (a : Ask) : (PK.bits m).read b a = if b.length < 2 then none else if (b.drop 2).length < 1 then none else if ((b.drop 2).drop 1).length < (cutN (b.drop 2) 1).toNat then none else
      if Word.isBitsI (((b.drop 2).drop 1).take (cutN (b.drop 2) 1).toNat) ((cutN b 2).toNat : Nat) then some (((b.drop 2).drop 1).drop (cutN (b.drop 2) 1).toNat, { a with bits := Word.bitsOf (((b.drop 2).drop 1).take (cutN (b.drop 2) 1).toNat) (cutN b 2).toNat }) else none := rfl
theorem read_words (m : Nat) (b : List UInt8) (a : Ask) : (PK.words m).read b a = if b.length < 2 then none else if (b.drop 2).length < 1 then none else if ((b.drop 2).drop 1).length < (cutN (b.drop 2) 1).toNat then none else
      if Word.isWords (((b.drop 2).drop 1).take (cutN (b.drop 2) 1).toNat) && decide ((Word.words (((b.drop 2).drop 1).take (cutN (b.drop 2) 1).toNat)).length = (cutN b 2).toNat) then some (((b.drop 2).drop 1).drop (cutN (b.drop 2) 1).toNat, { a with words := Word.words (((b.drop 2).drop 1).take (cutN (b.drop 2) 1).toNat) }) else none := rfl
theorem isBitsI_nat (b : List UInt8) (n : Nat) : Word.isBitsI b (n : Nat) = Word.isBits b n := by
  unfold Word.isBitsI
  simp

/-- What is laid is read. -/
theorem read_out (p : PK) (hg : p.Good) (a : Ask) (hf : p.fits a = true) (r : List UInt8) (a0 : Ask) : p.read (p.out a ++ r) a0 = some (r, p.copy a a0) := by
  cases p with
  | num f sz lo hi =>
    obtain ⟨h1, h2, h3⟩ := hg
    rw [f_num] at hf
    have hx := IF.get_u16 (f := f) (a := a) (by omega) (by omega)
    have hlt : sz = 2 ∨ sz = 1 ∧ (UInt16.ofNat (f.get a).toNat).toNat < 256 := h1.imp id fun h => ⟨h.1, by omega⟩
    have hsz : sz ≤ 2 := by omega
    rw [read_num, o_num, if_neg (by rw [List.length_append, low_length _ _ hsz]; omega), drop_low _ _ _ hsz, cutN_low _ _ _ hlt, ← hx]
    rfl
  | mask f =>
    rw [read_mask, o_mask, if_neg (by rw [List.length_append, low_length _ _ (by omega)]; omega), drop_low _ _ _ (by omega), cutN_low _ _ _ (.inl rfl)]
    rfl
  | bit =>
    rw [f_bit] at hf
    obtain ⟨y, hy⟩ := List.length_eq_one_iff.1 hf
    rw [read_bit, o_bit, hy, if_neg (by rw [List.length_append, low_length _ _ (by omega)]; omega), drop_low _ _ _ (by omega), cutN_low _ _ _ (.inl rfl)]
    cases y <;> simp [PK.copy, hy]
  | word =>
    rw [f_word] at hf
    obtain ⟨y, hy⟩ := List.length_eq_one_iff.1 hf
    rw [read_word, o_word, hy, if_neg (by rw [List.length_append, low_length _ _ (by omega)]; omega), drop_low _ _ _ (by omega), cutN_low _ _ _ (.inl rfl)]
    simp [PK.copy, hy]
  | bits m =>
    rw [f_bits] at hf
    have hm : m ≤ 1968 := hg
    have e1 : (UInt16.ofNat a.bits.length).toNat = a.bits.length := by rw [UInt16.toNat_ofNat']; omega
    have e2 : (UInt16.ofNat ((a.bits.length + 7) / 8)).toNat = (a.bits.length + 7) / 8 := by rw [UInt16.toNat_ofNat']; omega
    have e3 := Word.pack_length a.bits
    rw [o_bits, List.append_assoc, List.append_assoc, read_bits, if_neg (by rw [List.length_append, low_length _ _ (by omega)]; omega), drop_low _ _ _ (by omega), cutN_low _ _ _ (.inl rfl), if_neg (by rw [List.length_append, low_length _ _ (by omega)]; omega), drop_low _ _ _ (by omega), cutN_low _ _ _ (.inr ⟨rfl, by omega⟩), e1, e2, if_neg (by rw [List.length_append]; omega), ← e3, List.take_left, List.drop_left, isBitsI_nat, Word.isBits_pack, if_pos rfl, Word.bitsOf_pack]
    rfl
  | words m =>
    rw [f_words] at hf
    have hm : m ≤ 123 := hg
    have e1 : (UInt16.ofNat a.words.length).toNat = a.words.length := by rw [UInt16.toNat_ofNat']; omega
    have e2 : (UInt16.ofNat (2 * a.words.length)).toNat = 2 * a.words.length := by rw [UInt16.toNat_ofNat']; omega
    have e3 := Word.bytes_length a.words
    rw [o_words, List.append_assoc, List.append_assoc, read_words, if_neg (by rw [List.length_append, low_length _ _ (by omega)]; omega), drop_low _ _ _ (by omega), cutN_low _ _ _ (.inl rfl), if_neg (by rw [List.length_append, low_length _ _ (by omega)]; omega), drop_low _ _ _ (by omega), cutN_low _ _ _ (.inr ⟨rfl, by omega⟩), e1, e2, if_neg (by rw [List.length_append]; omega), ← e3, List.take_left, List.drop_left, Word.isWords_bytes, Word.words_bytes, decide_eq_true rfl, Bool.and_self, if_pos rfl]
    rfl

/-- What is read has just these bytes. -/
theorem read_inv (p : PK) (hg : p.Good) {b r : List UInt8} {a0 a : Ask} (h : p.read b a0 = some (r, a)) : b = p.out a ++ r ∧ a = p.copy a a0 := by
  cases p with
  | num f sz lo hi =>
    obtain ⟨h1, h2, h3⟩ := hg
    rw [read_num] at h
    split at h
    · cases h
    · next hl =>
      simp only [Option.some.injEq, Prod.mk.injEq] at h
      obtain ⟨rfl, rfl⟩ := h
      have hget : f.get (f.set a0 ((cutN b sz).toNat : Int)) = ((cutN b sz).toNat : Int) := by cases f <;> rfl
      rw [o_num, hget, Int.toNat_natCast, UInt16.ofNat_toNat, low_cutN b sz (by omega) (by omega), List.take_append_drop]
      refine ⟨rfl, ?_⟩
      cases f <;> rfl
  | mask f =>
    rw [read_mask] at h
    split at h
    · cases h
    · next hl =>
      simp only [Option.some.injEq, Prod.mk.injEq] at h
      obtain ⟨rfl, rfl⟩ := h
      have hget : f.get (f.set a0 (cutN b 2)) = cutN b 2 := by cases f <;> rfl
      rw [o_mask, hget, low_cutN b 2 (.inl rfl) (by omega), List.take_append_drop]
      refine ⟨rfl, ?_⟩
      cases f <;> rfl
  | bit =>
    rw [read_bit] at h
    split at h
    · cases h
    · next hl =>
      have hc := low_cutN b 2 (.inl rfl) (by omega)
      split at h
      · next h1 =>
        simp only [Option.some.injEq, Prod.mk.injEq] at h
        obtain ⟨rfl, rfl⟩ := h
        refine ⟨?_, rfl⟩
        rw [h1] at hc
        show b = low 65280 2 ++ b.drop 2
        rw [hc, List.take_append_drop]
      · split at h
        · next h1 =>
          simp only [Option.some.injEq, Prod.mk.injEq] at h
          obtain ⟨rfl, rfl⟩ := h
          refine ⟨?_, rfl⟩
          rw [h1] at hc
          show b = low 0 2 ++ b.drop 2
          rw [hc, List.take_append_drop]
        · cases h
  | word =>
    rw [read_word] at h
    split at h
    · cases h
    · next hl =>
      simp only [Option.some.injEq, Prod.mk.injEq] at h
      obtain ⟨rfl, rfl⟩ := h
      refine ⟨?_, rfl⟩
      show b = low (cutN b 2) 2 ++ b.drop 2
      rw [low_cutN b 2 (.inl rfl) (by omega), List.take_append_drop]
  | bits m =>
    rw [read_bits] at h
    split at h
    · cases h
    · next hl =>
      split at h
      · cases h
      · next hl2 =>
        split at h
        · cases h
        · next hl3 =>
          split at h
          · next hi =>
            simp only [Option.some.injEq, Prod.mk.injEq] at h
            obtain ⟨rfl, rfl⟩ := h
            refine ⟨?_, rfl⟩
            rw [isBitsI_nat] at hi
            have hlen := Word.isBits_length hi
            have hpk := Word.pack_bitsOf (((b.drop 2).drop 1).take (cutN (b.drop 2) 1).toNat) (cutN b 2).toNat
            rw [hi, beq_iff_eq] at hpk
            rw [List.length_take, Nat.min_eq_left (by omega)] at hlen
            rw [o_bits]
            dsimp only
            rw [Word.bitsOf_length, ← hlen, hpk, UInt16.ofNat_toNat, UInt16.ofNat_toNat, low_cutN b 2 (.inl rfl) (by omega), low_cutN (b.drop 2) 1 (.inr rfl) (by omega), List.append_assoc, List.append_assoc, List.take_append_drop, List.take_append_drop, List.take_append_drop]
          · cases h
  | words m =>
    rw [read_words] at h
    split at h
    · cases h
    · next hl =>
      split at h
      · cases h
      · next hl2 =>
        split at h
        · cases h
        · next hl3 =>
          split at h
          · next hi =>
            simp only [Option.some.injEq, Prod.mk.injEq] at h
            obtain ⟨rfl, rfl⟩ := h
            refine ⟨?_, rfl⟩
            rw [Bool.and_eq_true, decide_eq_true_eq] at hi
            have hbw := bytes_words _ hi.1
            have hlen := congrArg List.length hbw
            rw [Word.bytes_length, List.length_take, Nat.min_eq_left (by omega)] at hlen
            rw [o_words]
            dsimp only
            rw [hlen, hbw, hi.2, UInt16.ofNat_toNat, UInt16.ofNat_toNat, low_cutN b 2 (.inl rfl) (by omega), low_cutN (b.drop 2) 1 (.inr rfl) (by omega), List.append_assoc, List.append_assoc, List.take_append_drop, List.take_append_drop, List.take_append_drop]
          · cases h

theorem reads_outs (a : Ask) : ∀ (ps : List PK) (_ : ∀ p ∈ ps, p.Good) (_ : ∀ p ∈ ps, p.fits a = true) (r : List UInt8) (a0 : Ask), LK.reads ps (LK.outs ps a ++ r) a0 = some (r, ps.foldl (fun a0 p => p.copy a a0) a0)
  | [], _, _, r, a0 => rfl
  | p :: ps, hg, hf, r, a0 => by
    have e : LK.outs (p :: ps) a = p.out a ++ LK.outs ps a := by simp [LK.outs]
    rw [e, List.append_assoc, LK.reads_cons, read_out p (hg p (by simp)) a (hf p (by simp))]
    dsimp only
    rw [reads_outs a ps (fun q hq => hg q (by simp [hq])) (fun q hq => hf q (by simp [hq]))]
    rfl
theorem out_copy (p q : PK) (h : p.slot ≠ q.slot) (a a0 : Ask) : p.out (q.copy a a0) = p.out a0 := by
  cases p with
  | num f sz lo hi =>
    have hget : f.get (q.copy a a0) = f.get a0 := by
      cases q with
      | num g s l u => cases f <;> cases g <;> first | rfl | exact absurd rfl h
      | mask g => cases f <;> cases g <;> rfl
      | bit => cases f <;> rfl
      | word => cases f <;> rfl
      | bits m => cases f <;> rfl
      | words m => cases f <;> rfl
    rw [o_num, o_num, hget]
  | mask f =>
    have hget : f.get (q.copy a a0) = f.get a0 := by
      cases q with
      | num g s l u => cases f <;> cases g <;> rfl
      | mask g => cases f <;> cases g <;> first | rfl | exact absurd rfl h
      | bit => cases f <;> rfl
      | word => cases f <;> rfl
      | bits m => cases f <;> rfl
      | words m => cases f <;> rfl
    rw [o_mask, o_mask, hget]
  | bit =>
    have hget : (q.copy a a0).bits = a0.bits := by
      cases q with
      | num g s l u => cases g <;> rfl
      | mask g => cases g <;> rfl
      | bit => exact absurd rfl h
      | word => rfl
      | bits m => exact absurd rfl h
      | words m => rfl
    rw [o_bit, o_bit, hget]
  | word =>
    have hget : (q.copy a a0).words = a0.words := by
      cases q with
      | num g s l u => cases g <;> rfl
      | mask g => cases g <;> rfl
      | bit => rfl
      | word => exact absurd rfl h
      | bits m => rfl
      | words m => exact absurd rfl h
    rw [o_word, o_word, hget]
  | bits m =>
    have hget : (q.copy a a0).bits = a0.bits := by
      cases q with
      | num g s l u => cases g <;> rfl
      | mask g => cases g <;> rfl
      | bit => exact absurd rfl h
      | word => rfl
      | bits m => exact absurd rfl h
      | words m => rfl
    rw [o_bits, o_bits, hget]
  | words m =>
    have hget : (q.copy a a0).words = a0.words := by
      cases q with
      | num g s l u => cases g <;> rfl
      | mask g => cases g <;> rfl
      | bit => rfl
      | word => exact absurd rfl h
      | bits m => rfl
      | words m => exact absurd rfl h
    rw [o_words, o_words, hget]
theorem code_copy (q : PK) (a a0 : Ask) : (q.copy a a0).code = a0.code := by
  cases q with
  | num g s l u => cases g <;> rfl
  | mask g => cases g <;> rfl
  | bit => rfl
  | word => rfl
  | bits m => rfl
  | words m => rfl
theorem reads_stable (p : PK) : ∀ (ps : List PK) (_ : ∀ q ∈ ps, q.Good) (_ : ∀ q ∈ ps, p.slot ≠ q.slot) {b r : List UInt8} {a0 a : Ask}, LK.reads ps b a0 = some (r, a) → p.out a = p.out a0
  | [], _, _, b, r, a0, a, h => by
    simp only [LK.reads, Option.some.injEq, Prod.mk.injEq] at h
    rw [h.2]
  | q :: ps, hg, hs, b, r, a0, a, h => by
    rw [LK.reads_cons] at h
    cases hq : q.read b a0 with
    | none => rw [hq] at h; cases h
    | some x =>
      obtain ⟨r1, a1⟩ := x
      rw [hq] at h
      dsimp only at h
      have h1 := (read_inv q (hg q (by simp)) hq).2
      rw [reads_stable p ps (fun q hq => hg q (by simp [hq])) (fun q hq => hs q (by simp [hq])) h, h1]
      exact out_copy p q (hs q (by simp)) _ _
theorem reads_code : ∀ (ps : List PK) (_ : ∀ q ∈ ps, q.Good) {b r : List UInt8} {a0 a : Ask}, LK.reads ps b a0 = some (r, a) → a.code = a0.code
  | [], _, b, r, a0, a, h => by
    simp only [LK.reads, Option.some.injEq, Prod.mk.injEq] at h
    rw [h.2]
  | q :: ps, hg, b, r, a0, a, h => by
    rw [LK.reads_cons] at h
    cases hq : q.read b a0 with
    | none => rw [hq] at h; cases h
    | some x =>
      obtain ⟨r1, a1⟩ := x
      rw [hq] at h
      dsimp only at h
      have h1 := (read_inv q (hg q (by simp)) hq).2
      rw [reads_code ps (fun q hq => hg q (by simp [hq])) h, h1]
      exact code_copy _ _ _
theorem reads_inv : ∀ (ps : List PK) (_ : ∀ q ∈ ps, q.Good) (_ : ps.Pairwise fun p q => p.slot ≠ q.slot) {b r : List UInt8} {a0 a : Ask}, LK.reads ps b a0 = some (r, a) → b = LK.outs ps a ++ r
  | [], _, _, b, r, a0, a, h => by
    simp only [LK.reads, Option.some.injEq, Prod.mk.injEq] at h
    rw [h.1]
    rfl
  | p :: ps, hg, hd, b, r, a0, a, h => by
    rw [LK.reads_cons] at h
    cases hq : p.read b a0 with
    | none => rw [hq] at h; cases h
    | some x =>
      obtain ⟨r1, a1⟩ := x
      rw [hq] at h
      dsimp only at h
      rw [List.pairwise_cons] at hd
      have h1 := (read_inv p (hg p (by simp)) hq).1
      have h2 := reads_inv ps (fun q hq => hg q (by simp [hq])) hd.2 h
      have h3 := reads_stable p ps (fun q hq => hg q (by simp [hq])) hd.1 h
      have e : LK.outs (p :: ps) a = p.out a ++ LK.outs ps a := by simp [LK.outs]
      rw [e, List.append_assoc, ← h2, h3]
      exact h1
theorem layOf_apart {c : Int} {L : LK} (h : layOf c = some L) : L.parts.Pairwise fun p q => p.slot ≠ q.slot := by
  have hc := layOf_mem h
  simp only [Ak.codes, List.mem_cons, List.not_mem_nil, or_false] at hc
  rcases hc with rfl | rfl | rfl | rfl | rfl | rfl | rfl | rfl | rfl | rfl | rfl
  all_goals
    cases h
    simp [PK.slot, IF.ix, UF.ix]
theorem layOf_first {c : Int} {L : LK} (h : layOf c = some L) : (((L.begin_.getD 0 0).toNat : Nat) : Int) = c := by
  have hc := layOf_mem h
  simp only [Ak.codes, List.mem_cons, List.not_mem_nil, or_false] at hc
  rcases hc with rfl | rfl | rfl | rfl | rfl | rfl | rfl | rfl | rfl | rfl | rfl
  all_goals
    cases h
    rfl
theorem layBy_of {b : List UInt8} {L : LK} (h : layBy b = some L) : 0 < b.length ∧ layOf ((b.getD 0 0).toNat : Nat) = some L ∧ b.take (min b.length L.begin_.length) = L.begin_.take (min b.length L.begin_.length) := by
  unfold layBy at h
  split at h
  · cases h
  · next h0 =>
    split at h
    · cases h
    · next L' hl =>
      split at h
      · next ht =>
        cases h
        exact ⟨by omega, hl, by simpa using ht⟩
      · cases h
theorem layBy_parts {b : List UInt8} {L : LK} (h : layBy b = some L) : L.parts.length ≤ 4 ∧ 0 < L.begin_.length := by
  obtain ⟨_, hl, _⟩ := layBy_of h
  exact ⟨(layOf_parts hl).1, (layOf_parts hl).2.1⟩
/-- What is read by a layout: its code, and its bytes. -/
theorem readAll_inv {c : Int} {L : LK} (hl : layOf c = some L) {b : List UInt8} {a : Ask} (hr : L.readAll b = some a) : a.code = c ∧ b = L.begin_ ++ LK.outs L.parts a := by
  unfold LK.readAll at hr
  split at hr
  · next hp =>
    cases hx : LK.reads L.parts (b.drop L.begin_.length) { Ak.zero with code := ((L.begin_.getD 0 0).toNat : Nat) } with
    | none => rw [hx] at hr; cases hr
    | some x =>
      obtain ⟨r, a'⟩ := x
      rw [hx] at hr
      cases r with
      | cons y r => cases hr
      | nil =>
        simp only [Option.some.injEq] at hr
        subst hr
        have h1 := reads_inv L.parts (layOf_good hl) (layOf_apart hl) hx
        have h2 := reads_code L.parts (layOf_good hl) hx
        rw [List.append_nil] at h1
        refine ⟨by rw [h2]; exact layOf_first hl, ?_⟩
        rw [← h1]
        obtain ⟨t, rfl⟩ := List.isPrefixOf_iff_prefix.1 hp
        rw [List.drop_left]
  · cases hr
theorem layBy_small {b : List UInt8} {L : LK} {a : Ask} (h : layBy b = some L) (hr : L.readAll b = some a) (hf : L.fits a = true) : SmallA a := by
  obtain ⟨_, hl, _⟩ := layBy_of h
  obtain ⟨hc, _⟩ := readAll_inv hl hr
  exact fits_small (by rw [hc]; exact hl) hf
theorem copy_all {a : Ask} {L : LK} (h : layOf a.code = some L) (hf : Ak.formed a = true) : L.parts.foldl (fun a0 p => p.copy a a0) { Ak.zero with code := ((L.begin_.getD 0 0).toNat : Nat) } = a := by
  rw [layOf_first h]
  cases Ak.shape hf with
  | count c addr n hc h0 h1 n0 n1 => rcases hc with rfl | rfl | rfl | rfl <;> cases h <;> rfl
  | five addr b h0 h1 => cases h; rfl
  | six addr x h0 h1 => cases h; rfl
  | bits addr l h0 h1 l0 l1 => cases h; rfl
  | words addr l h0 h1 l0 l1 => cases h; rfl
  | mask addr x y h0 h1 => cases h; rfl
  | both addr n to l h0 h1 n0 n1 t0 t1 l0 l1 => cases h; rfl
  | ident addr n h0 h1 n0 n1 => cases h; rfl
theorem readAll_text {a : Ask} {L : LK} (h : layOf a.code = some L) (hf : Ak.formed a = true) : L.readAll (Ak.text a) = some a := by
  have hfit := fits_formed h
  rw [hf] at hfit
  unfold LK.fits at hfit
  rw [Bool.and_eq_true] at hfit
  rw [← fits_text h hf]
  unfold LK.readAll
  rw [if_pos (List.isPrefixOf_iff_prefix.2 (List.prefix_append _ _)), List.drop_left]
  have hr := reads_outs a L.parts (layOf_good h) (fun p hp => List.all_eq_true.1 hfit.1 p hp) [] { Ak.zero with code := ((L.begin_.getD 0 0).toNat : Nat) }
  rw [List.append_nil, copy_all h hf] at hr
  rw [hr]
theorem parse_none {b : List UInt8} (h : layBy b = none) : Ak.parse b = (Ak.zero, 1) := by
  unfold Ak.parse
  rw [if_pos]
  unfold layBy at h
  split at h
  · next h0 => exact .inl h0
  · next h0 =>
    right
    split at h
    · next hl =>
      left
      unfold Ak.isC
      refine decide_eq_false fun hc => ?_
      obtain ⟨L, hL⟩ := layOf_codes hc
      rw [hL] at hl
      cases hl
    · next L hl =>
      right
      split at h
      · cases h
      · next ht =>
        have hc := layOf_mem hl
        simp only [Ak.codes, List.mem_cons, List.not_mem_nil, or_false] at hc
        rcases b with _ | ⟨x, r⟩
        · exact absurd rfl h0
        · have hx : ∀ (k : Nat) (y : UInt8), k < 256 → ((x.toNat : Nat) : Int) = (k : Int) → UInt8.ofNat k = y → x = y := fun k y hk h1 h2 => by
            rw [← h2]
            exact UInt8.toNat_inj.1 (by rw [UInt8.toNat_ofNat']; omega)
          have hone : ∀ y : UInt8, L.begin_ = [y] → x ≠ y := by
            rintro y hy rfl
            rw [hy] at ht
            simp at ht
          have hxt : ((x.toNat : Nat) : Int) = (((x :: r).getD 0 0).toNat : Nat) := rfl
          rw [← hxt] at hc hl
          by_cases h43 : ((x.toNat : Nat) : Int) = 43
          · rw [h43] at hl
            cases hl
            have hx43 := hx 43 43 (by omega) h43 rfl
            subst hx43
            rcases r with _ | ⟨y, r⟩
            · simp at ht
            · refine ⟨rfl, by simp, fun hy => ?_⟩
              have hy' : y = 14 := hy
              subst hy'
              apply ht
              simp only [List.length_cons, List.length_nil]
              rw [show min (r.length + 1 + 1) (0 + 1 + 1) = 2 by omega]
              rfl
          · exfalso
            rcases hc with hc | hc | hc | hc | hc | hc | hc | hc | hc | hc | hc
            · rw [hc] at hl; cases hl; exact hone 1 rfl (hx 1 1 (by omega) hc rfl)
            · rw [hc] at hl; cases hl; exact hone 2 rfl (hx 2 2 (by omega) hc rfl)
            · rw [hc] at hl; cases hl; exact hone 3 rfl (hx 3 3 (by omega) hc rfl)
            · rw [hc] at hl; cases hl; exact hone 4 rfl (hx 4 4 (by omega) hc rfl)
            · rw [hc] at hl; cases hl; exact hone 5 rfl (hx 5 5 (by omega) hc rfl)
            · rw [hc] at hl; cases hl; exact hone 6 rfl (hx 6 6 (by omega) hc rfl)
            · rw [hc] at hl; cases hl; exact hone 15 rfl (hx 15 15 (by omega) hc rfl)
            · rw [hc] at hl; cases hl; exact hone 16 rfl (hx 16 16 (by omega) hc rfl)
            · rw [hc] at hl; cases hl; exact hone 22 rfl (hx 22 22 (by omega) hc rfl)
            · rw [hc] at hl; cases hl; exact hone 23 rfl (hx 23 23 (by omega) hc rfl)
            · exact h43 hc
theorem layBy_head {b : List UInt8} {L : LK} (h : layBy b = some L) : Ak.parse b = if Ak.formed (Ak.guess b) = false ∨ Ak.text (Ak.guess b) ≠ b then (Ak.zero, 3) else if Ak.placed (Ak.guess b) = false then (Ak.zero, 2) else (Ak.guess b, 0) := by
  obtain ⟨h0, hl, ht⟩ := layBy_of h
  refine Ak.parse_head h0 (by unfold Ak.isC; exact decide_eq_true (layOf_mem hl)) fun h43 => ?_
  rw [h43] at hl
  cases hl
  rcases b with _ | ⟨x, _ | ⟨y, r⟩⟩
  · simp at h0
  · exact .inr (by simp)
  · left
    simp only [List.length_cons, List.length_nil] at ht
    rw [show min (r.length + 1 + 1) (0 + 1 + 1) = 2 by omega] at ht
    simp only [List.take_succ_cons, List.take_zero, List.cons.injEq] at ht
    exact ht.2.1
theorem parse_some {b : List UInt8} {L : LK} (h : layBy b = some L) : (L.readAll b = none → Ak.parse b = (Ak.zero, 3)) ∧ (∀ a, L.readAll b = some a → L.fits a = false → Ak.parse b = (Ak.zero, 3)) ∧ (∀ a, L.readAll b = some a → L.fits a = true → (L.inside.ok a = false → Ak.parse b = (Ak.zero, 2)) ∧ (L.inside.ok a = true → Ak.parse b = (a, 0))) := by
  obtain ⟨h0, hl, _⟩ := layBy_of h
  rw [layBy_head h]
  have key : Ak.formed (Ak.guess b) = true → Ak.text (Ak.guess b) = b → L.readAll b = some (Ak.guess b) ∧ layOf (Ak.guess b).code = some L := by
    intro hf ht
    have hc := (Ak.text_code (Ak.shape hf)).1
    rw [ht] at hc
    have hl' : layOf (Ak.guess b).code = some L := by rw [← hc]; exact hl
    have hr := readAll_text hl' hf
    rw [ht] at hr
    exact ⟨hr, hl'⟩
  refine ⟨fun hn => ?_, fun a hr hf => ?_, fun a hr hf => ?_⟩
  · rw [if_pos]
    cases hf : Ak.formed (Ak.guess b) with
    | false => exact .inl rfl
    | true =>
      right
      intro ht
      rw [(key hf ht).1] at hn
      cases hn
  · rw [if_pos]
    cases hfm : Ak.formed (Ak.guess b) with
    | false => exact .inl rfl
    | true =>
      right
      intro ht
      obtain ⟨h1, h2⟩ := key hfm ht
      rw [h1] at hr
      cases hr
      rw [fits_formed h2, hfm] at hf
      cases hf
  · obtain ⟨hc, hb⟩ := readAll_inv hl hr
    have hla : layOf a.code = some L := by rw [hc]; exact hl
    have hfm : Ak.formed a = true := by rw [← fits_formed hla]; exact hf
    have ht : Ak.text a = b := by rw [← fits_text hla hfm]; exact hb.symm
    have hg : Ak.guess b = a := by rw [← ht]; exact Ak.guess_text (Ak.shape hfm)
    rw [hg, if_neg (by rw [hfm, ht]; simp), ← inside_placed hla hfm]
    refine ⟨fun hi => by rw [hi, if_pos rfl], fun hi => by rw [hi]; rfl⟩
end Go.Proofs.YtlgmjnjhdamknaaGreat
