
/-
  Answers: the bytes of an answer, the answer that bytes may be, and that they come back (the mathematics).
-/
import Derived.Test.YtlgmjnjhdamknaaGreatAn
import Derived.Test.YtlgmjnjhdamknaaGreatAkm
namespace Go.Proofs.YtlgmjnjhdamknaaGreat
open Go.RowKit

namespace An
def b1 (n : Nat) : UInt8 := UInt8.ofNat n
/-- Texts, laid one behind the other, from a place on. -/
def laid : Nat → List ByteArray → List UInt8
  | _, [] => []
  | i, s :: r => b1 i :: b1 s.size :: (s.data.toList ++ laid (i + 1) r)
def text (a : Ask) (x : Ans) : List UInt8 :=
  if 0 < x.exc then [b1 (128 + a.code.toNat), b1 x.exc.toNat]
  else if a.code = 1 ∨ a.code = 2 then b1 a.code.toNat :: b1 (Word.pack x.bits).length :: Word.pack x.bits
  else if a.code = 3 ∨ a.code = 4 ∨ a.code = 23 then b1 a.code.toNat :: b1 (Word.bytes x.words).length :: Word.bytes x.words
  else if a.code = 5 ∨ a.code = 6 ∨ a.code = 22 then Ak.bytes a
  else if a.code = 15 ∨ a.code = 16 then (Ak.bytes a).take 5
  else [43, 14, b1 a.count.toNat, 1, 0, 0, b1 x.texts.length] ++ laid a.addr.toNat x.texts
def bytes (a : Ask) (x : Ans) : List UInt8 := if right a x then text a x else []
def codeA (a : Ask) (x : Ans) : Nat := if Ak.right a then (if right a x then 0 else 2) else 1
/-- Texts that bytes may be those of: as long as there are some. -/
def cutF : Nat → List UInt8 → List ByteArray
  | 0, _ => []
  | _ + 1, [] => []
  | _ + 1, [_] => []
  | f + 1, _ :: n :: r => if r.length < n.toNat then [] else ⟨(r.take n.toNat).toArray⟩ :: cutF f (r.drop n.toNat)
def cut (l : List UInt8) : List ByteArray := cutF l.length l
def guess (a : Ask) (b : List UInt8) : Ans :=
  if b.length = 2 ∧ ((b.getD 0 0).toNat : Int) = 128 + a.code then { zero with exc := (b.getD 1 0).toNat }
  else if a.code = 1 ∨ a.code = 2 then { zero with bits := Word.bitsOf (b.drop 2) (min a.count.toNat (8 * (b.drop 2).length)) }
  else if a.code = 3 ∨ a.code = 4 ∨ a.code = 23 then { zero with words := Word.ansWords (b.drop 2) }
  else if a.code = 43 then { zero with texts := cut (b.drop 7) }
  else zero
def read (a : Ask) (b : List UInt8) : Ans × Nat :=
  if Ak.right a = false then (zero, 1) else if right a (guess a b) = false ∨ text a (guess a b) ≠ b then (zero, 2) else (guess a b, 0)

/-- What may come of a request, by its code. -/
inductive Shape : Ask → Ans → Prop
  | exc (a : Ask) (n : Int) (h0 : 1 ≤ n) (h1 : n ≤ 255) : Shape a ⟨n, [], [], []⟩
  | bits (a : Ask) (l : List Bool) (hc : a.code = 1 ∨ a.code = 2) (hl : (l.length : Int) = a.count) (h1 : l.length ≤ 2000) : Shape a ⟨0, l, [], []⟩
  | words (a : Ask) (l : List UInt16) (hc : a.code = 3 ∨ a.code = 4 ∨ a.code = 23) (hl : (l.length : Int) = a.count) (h1 : l.length ≤ 125) : Shape a ⟨0, [], l, []⟩
  | back (a : Ask) (hc : a.code = 5 ∨ a.code = 6 ∨ a.code = 22 ∨ a.code = 15 ∨ a.code = 16) : Shape a ⟨0, [], [], []⟩
  | texts (a : Ask) (l : List ByteArray) (hc : a.code = 43) (h0 : 0 < l.length) (hs : ∀ s ∈ l, s.size ≤ 245) (h1 : long l ≤ 253) (h2 : a.addr + l.length ≤ 256) : Shape a ⟨0, [], [], l⟩

theorem longF_le (l : List ByteArray) : ∀ n, n ≤ longF n l := by
  induction l with
  | nil => intro n; exact Nat.le_refl _
  | cons s r ih =>
    intro n
    show n ≤ if n < 1000 then longF (n + 2 + s.size) r else n
    split
    · have := ih (n + 2 + s.size)
      omega
    · exact Nat.le_refl _
theorem laid_length (l : List ByteArray) : ∀ i n, longF n l ≤ 253 → n + (laid i l).length = longF n l := by
  induction l with
  | nil => intro i n _; rfl
  | cons s r ih =>
    intro i n h
    have h0 := longF_le (s :: r) n
    have hn : n < 1000 := by omega
    rw [longF_cons n s r hn] at h ⊢
    have := ih (i + 1) (n + 2 + s.size) h
    have hs : s.data.toList.length = s.size := Array.length_toList
    show n + (b1 i :: b1 s.size :: (s.data.toList ++ laid (i + 1) r)).length = _
    rw [List.length_cons, List.length_cons, List.length_append, hs]
    omega
theorem b1_toNat (n : Nat) (h : n < 256) : (b1 n).toNat = n := by unfold b1; rw [UInt8.toNat_ofNat']; omega
theorem cut_laid (l : List ByteArray) : ∀ i f, (∀ s ∈ l, s.size ≤ 245) → (laid i l).length ≤ f → cutF f (laid i l) = l := by
  induction l with
  | nil =>
    intro i f _ _
    cases f <;> rfl
  | cons s r ih =>
    intro i f hs hf
    have hsz : s.data.toList.length = s.size := Array.length_toList
    have h1 := hs s (by simp)
    have e : laid i (s :: r) = b1 i :: b1 s.size :: (s.data.toList ++ laid (i + 1) r) := rfl
    rw [e, List.length_cons, List.length_cons, List.length_append, hsz] at hf
    rw [e]
    obtain ⟨f, rfl⟩ : ∃ f', f = f' + 1 := ⟨f - 1, by omega⟩
    show (if (s.data.toList ++ laid (i + 1) r).length < (b1 s.size).toNat then [] else (⟨((s.data.toList ++ laid (i + 1) r).take (b1 s.size).toNat).toArray⟩ : ByteArray) :: cutF f ((s.data.toList ++ laid (i + 1) r).drop (b1 s.size).toNat)) = s :: r
    rw [b1_toNat _ (by omega), if_neg (by rw [List.length_append, hsz]; omega), ← hsz, List.take_left, List.drop_left, ih (i + 1) f (fun t ht => hs t (by simp [ht])) (by omega)]
theorem right_parts {a : Ask} {x : Ans} (h : right a x = true) : Ak.right a = true ∧ 0 ≤ x.exc ∧ x.exc ≤ 255 ∧ (x.bits.length : Int) = wantBits a x ∧ (x.words.length : Int) = wantWords a x ∧ (decide (0 < x.texts.length) = wantTexts a x) ∧ shortTexts x.texts = true ∧ (wantTexts a x = true → long x.texts ≤ 253 ∧ a.addr + x.texts.length ≤ 256) := by
  unfold right at h
  simp only [Bool.and_eq_true, decide_eq_true_eq, beq_iff_eq, Bool.or_eq_true, Bool.not_eq_true'] at h
  obtain ⟨⟨⟨⟨⟨⟨⟨h1, h2⟩, h3⟩, h4⟩, h5⟩, h6⟩, h7⟩, h8⟩ := h
  refine ⟨h1, h2, h3, h4, h5, h6, h7, fun hw => ?_⟩
  rcases h8 with h8 | h8
  · rw [hw] at h8; cases h8
  · exact h8
theorem short_all {l : List ByteArray} (h : shortTexts l = true) (hl : l.length ≤ 300) : ∀ s ∈ l, s.size ≤ 245 := by
  unfold shortTexts at h
  rw [List.take_of_length_le hl, List.all_eq_true] at h
  intro s hs
  simpa using h s hs
theorem ak_right {a : Ask} (h : Ak.right a = true) : Ak.formed a = true ∧ Ak.bytes a = Ak.text a := by
  unfold Ak.bytes
  rw [h]
  unfold Ak.right at h
  rw [Bool.and_eq_true] at h
  exact ⟨h.1, rfl⟩
theorem shape {a : Ask} {x : Ans} (h : right a x = true) : Shape a x := by
  obtain ⟨h1, h2, h3, h4, h5, h6, h7, h8⟩ := right_parts h
  obtain ⟨exc, bits, words, texts⟩ := x
  simp only at *
  have hsh := Ak.shape (ak_right h1).1
  have hfit := (Ak.formed_parts (ak_right h1).1).2.1
  by_cases he : exc = 0
  · subst he
    have hT : ∀ c : Int, a.code = c → c ≠ 43 → texts = [] := fun c hc h43 => by
      unfold wantTexts at h6
      have e : (a.code == 43) = false := beq_eq_false_iff_ne.2 (by omega)
      rw [e, Bool.and_false, decide_eq_false_iff_not] at h6
      exact List.eq_nil_of_length_eq_zero (by omega)
    have hB : ∀ c : Int, a.code = c → 2 < c → bits = [] := fun c hc h2c => by
      unfold wantBits at h4
      rw [if_neg (by omega)] at h4
      exact List.eq_nil_of_length_eq_zero (by omega)
    have hW : ∀ c : Int, a.code = c → c ≠ 3 → c ≠ 4 → c ≠ 23 → words = [] := fun c hc n1 n2 n3 => by
      unfold wantWords at h5
      rw [if_neg (by omega)] at h5
      exact List.eq_nil_of_length_eq_zero (by omega)
    unfold wantBits at h4
    unfold wantWords at h5
    cases hsh with
    | count c addr n hc h0 h1' n0 n1 =>
      obtain rfl := hT c rfl (by omega)
      rcases hc with rfl | rfl | rfl | rfl
      · obtain rfl := hW 1 rfl (by omega) (by omega) (by omega)
        exact .bits _ bits (.inl rfl) (by simpa using h4) (by have : (bits.length : Int) = n := by simpa using h4
                                                              omega)
      · obtain rfl := hW 2 rfl (by omega) (by omega) (by omega)
        exact .bits _ bits (.inr rfl) (by simpa using h4) (by have : (bits.length : Int) = n := by simpa using h4
                                                              omega)
      · obtain rfl := hB 3 rfl (by omega)
        have hn : (words.length : Int) = n := by simpa using h5
        have hm := Ak.fits_most (m := 125) hfit (by omega)
        exact .words _ words (.inl rfl) hn (by dsimp only at hm; omega)
      · obtain rfl := hB 4 rfl (by omega)
        have hn : (words.length : Int) = n := by simpa using h5
        have hm := Ak.fits_most (m := 125) hfit (by omega)
        exact .words _ words (.inr (.inl rfl)) hn (by dsimp only at hm; omega)
    | five addr b h0 h1' =>
      obtain rfl := hT 5 rfl (by omega)
      obtain rfl := hB 5 rfl (by omega)
      obtain rfl := hW 5 rfl (by omega) (by omega) (by omega)
      exact .back _ (.inl rfl)
    | six addr v h0 h1' =>
      obtain rfl := hT 6 rfl (by omega)
      obtain rfl := hB 6 rfl (by omega)
      obtain rfl := hW 6 rfl (by omega) (by omega) (by omega)
      exact .back _ (.inr (.inl rfl))
    | bits addr l h0 h1' l0 l1 =>
      obtain rfl := hT 15 rfl (by omega)
      obtain rfl := hB 15 rfl (by omega)
      obtain rfl := hW 15 rfl (by omega) (by omega) (by omega)
      exact .back _ (.inr (.inr (.inr (.inl rfl))))
    | words addr l h0 h1' l0 l1 =>
      obtain rfl := hT 16 rfl (by omega)
      obtain rfl := hB 16 rfl (by omega)
      obtain rfl := hW 16 rfl (by omega) (by omega) (by omega)
      exact .back _ (.inr (.inr (.inr (.inr rfl))))
    | mask addr v y h0 h1' =>
      obtain rfl := hT 22 rfl (by omega)
      obtain rfl := hB 22 rfl (by omega)
      obtain rfl := hW 22 rfl (by omega) (by omega) (by omega)
      exact .back _ (.inr (.inr (.inl rfl)))
    | both addr n to l h0 h1' n0 n1 t0 t1 l0 l1 =>
      obtain rfl := hT 23 rfl (by omega)
      obtain rfl := hB 23 rfl (by omega)
      have hn : (words.length : Int) = n := by simpa using h5
      exact .words _ words (.inr (.inr rfl)) hn (by omega)
    | ident addr n h0 h1' n0 n1 =>
      obtain rfl := hB 43 rfl (by omega)
      obtain rfl := hW 43 rfl (by omega) (by omega) (by omega)
      have hw : wantTexts ⟨43, addr, n, 0, [], [], 0, 0⟩ ⟨0, [], [], texts⟩ = true := rfl
      rw [hw, decide_eq_true_eq] at h6
      obtain ⟨g1, g2⟩ := h8 hw
      have hln : texts.length ≤ 256 := by dsimp only at g2; omega
      exact .texts _ texts rfl h6 (short_all h7 (by omega)) g1 g2
  · have hT : texts = [] := by
      unfold wantTexts at h6
      have e : (exc == 0) = false := beq_eq_false_iff_ne.2 he
      rw [e, Bool.false_and, decide_eq_false_iff_not] at h6
      exact List.eq_nil_of_length_eq_zero (by omega)
    have hB : bits = [] := by
      unfold wantBits at h4
      rw [if_neg (by simp only; omega)] at h4
      exact List.eq_nil_of_length_eq_zero (by omega)
    have hW : words = [] := by
      unfold wantWords at h5
      rw [if_neg (by simp only; omega)] at h5
      exact List.eq_nil_of_length_eq_zero (by omega)
    subst hT hB hW
    exact .exc a exc (by omega) h3

theorem code_lt {a : Ask} (h : Ak.formed a = true) : 1 ≤ a.code ∧ a.code ≤ 43 := by
  have hc := (Ak.formed_parts h).1
  simp only [Ak.codes, List.mem_cons, List.not_mem_nil, or_false] at hc
  omega
theorem text_back_len {a : Ask} (h : Ak.right a = true) (hc : a.code = 5 ∨ a.code = 6 ∨ a.code = 22 ∨ a.code = 15 ∨ a.code = 16) : 5 ≤ (Ak.text a).length := by
  cases Ak.shape (ak_right h).1 with
  | count c addr n hc' h0 h1 n0 n1 => dsimp only at hc; omega
  | five addr b h0 h1 => rw [Ak.text_five]; simp
  | six addr x h0 h1 => rw [Ak.text_six]; simp
  | bits addr l h0 h1 l0 l1 => rw [Ak.text_bits]; simp
  | words addr l h0 h1 l0 l1 => rw [Ak.text_words]; simp
  | mask addr x y h0 h1 => rw [Ak.text_mask]; simp
  | both addr n to l h0 h1 n0 n1 t0 t1 l0 l1 => dsimp only at hc; omega
  | ident addr n h0 h1 n0 n1 => dsimp only at hc; omega
/-- What may come of a request is what its bytes may be; they are not too many. -/
theorem guess_text {a : Ask} {x : Ans} (h : Ak.right a = true) (hs : Shape a x) : guess a (text a x) = x ∧ 2 ≤ (text a x).length ∧ (text a x).length ≤ 253 := by
  obtain ⟨hc0, hc1⟩ := code_lt (ak_right h).1
  cases hs with
  | exc n h0 h1 =>
    have e : text a ⟨n, [], [], []⟩ = [b1 (128 + a.code.toNat), b1 n.toNat] := by unfold text; rw [if_pos (by dsimp only; omega)]
    rw [e]
    refine ⟨?_, by simp, by simp⟩
    unfold guess
    have e1 : (((b1 (128 + a.code.toNat)).toNat : Nat) : Int) = 128 + a.code := by rw [b1_toNat _ (by omega)]; omega
    rw [if_pos ⟨rfl, e1⟩]
    show Ans.mk (((b1 n.toNat).toNat : Nat) : Int) [] [] [] = _
    rw [b1_toNat _ (by omega), Int.toNat_of_nonneg (by omega)]
  | bits l hc hl h1 =>
    have e : text a ⟨0, l, [], []⟩ = b1 a.code.toNat :: b1 (Word.pack l).length :: Word.pack l := by unfold text; rw [if_neg (by dsimp only; omega), if_pos hc]
    have hp := Word.pack_length l
    rw [e]
    refine ⟨?_, by simp, by simp only [List.length_cons]; omega⟩
    have e1 : (((b1 a.code.toNat).toNat : Nat) : Int) = a.code := by rw [b1_toNat _ (by omega)]; omega
    unfold guess
    rw [if_neg (by rintro ⟨_, g⟩; simp only [List.getD_cons_zero] at g; omega), if_pos hc]
    simp only [List.drop_succ_cons, List.drop_zero]
    have hm : min a.count.toNat (8 * (Word.pack l).length) = l.length := by omega
    rw [hm, Word.bitsOf_pack]
    rfl
  | words l hc hl h1 =>
    have e : text a ⟨0, [], l, []⟩ = b1 a.code.toNat :: b1 (Word.bytes l).length :: Word.bytes l := by unfold text; rw [if_neg (by dsimp only; omega), if_neg (by omega), if_pos hc]
    have hp := Word.bytes_length l
    rw [e]
    refine ⟨?_, by simp, by simp only [List.length_cons]; omega⟩
    have e1 : (((b1 a.code.toNat).toNat : Nat) : Int) = a.code := by rw [b1_toNat _ (by omega)]; omega
    unfold guess
    rw [if_neg (by rintro ⟨_, g⟩; simp only [List.getD_cons_zero] at g; omega), if_neg (by omega), if_pos hc]
    simp only [List.drop_succ_cons, List.drop_zero]
    rw [Word.ans_bytes]
    rfl
  | back hc =>
    have hl := text_back_len h hc
    have hm := (Ak.text_span (Ak.shape (ak_right h).1)).2.2
    have hz : ∀ b : List UInt8, 5 ≤ b.length → guess a b = ⟨0, [], [], []⟩ := fun b hb => by
      unfold guess
      rw [if_neg (by omega), if_neg (by omega), if_neg (by omega), if_neg (by omega)]
      rfl
    by_cases h2 : a.code = 5 ∨ a.code = 6 ∨ a.code = 22
    · have e : text a ⟨0, [], [], []⟩ = Ak.text a := by unfold text; rw [if_neg (by dsimp only; omega), if_neg (by omega), if_neg (by omega), if_pos h2, (ak_right h).2]
      rw [e]
      exact ⟨hz _ hl, by omega, by omega⟩
    · have e : text a ⟨0, [], [], []⟩ = (Ak.text a).take 5 := by unfold text; rw [if_neg (by dsimp only; omega), if_neg (by omega), if_neg (by omega), if_neg h2, if_pos (by omega), (ak_right h).2]
      rw [e]
      have hl5 : ((Ak.text a).take 5).length = 5 := by rw [List.length_take]; omega
      exact ⟨hz _ (by omega), by omega, by omega⟩
  | texts l hc h0 hs h1 h2 =>
    have e : text a ⟨0, [], [], l⟩ = [43, 14, b1 a.count.toNat, 1, 0, 0, b1 l.length] ++ laid a.addr.toNat l := by unfold text; rw [if_neg (by dsimp only; omega), if_neg (by omega), if_neg (by omega), if_neg (by omega), if_neg (by omega)]
    have hll := laid_length l a.addr.toNat 7 h1
    have hl2 : 2 ≤ (laid a.addr.toNat l).length := by
      cases l with
      | nil => simp at h0
      | cons s r => show 2 ≤ (b1 a.addr.toNat :: b1 s.size :: (s.data.toList ++ laid (a.addr.toNat + 1) r)).length; simp
    have hlong : longF 7 l = long l := rfl
    rw [e]
    refine ⟨?_, by simp, by simp only [List.length_append, List.length_cons, List.length_nil]; omega⟩
    unfold guess
    rw [if_neg (by simp only [List.length_append, List.length_cons, List.length_nil]; omega), if_neg (by omega), if_neg (by omega), if_pos hc]
    show Ans.mk 0 [] [] (cut (laid a.addr.toNat l)) = _
    unfold cut
    rw [cut_laid l _ _ hs (Nat.le_refl _)]
theorem read_text {a : Ask} {x : Ans} (h : right a x = true) : read a (text a x) = (x, 0) := by
  have h1 := (right_parts h).1
  have hg := (guess_text h1 (shape h)).1
  unfold read
  rw [if_neg (by rw [h1]; simp), hg, if_neg (by rw [h]; simp)]
/-- What is read has just these bytes; what is not is the zero answer. -/
theorem read_back (a : Ask) (b : List UInt8) : ((read a b).2 = 0 ∧ right a (read a b).1 = true ∧ text a (read a b).1 = b) ∨ ((read a b).2 ≠ 0 ∧ (read a b).1 = zero) := by
  unfold read
  split
  · exact .inr ⟨by decide, rfl⟩
  · split
    · exact .inr ⟨by decide, rfl⟩
    · next h1 h2 =>
      refine .inl ⟨rfl, ?_, ?_⟩
      · exact by simpa using fun h => h2 (.inl h)
      · exact Decidable.of_not_not fun h => h2 (.inr h)
theorem right_exc {a : Ask} (h : Ak.right a = true) (n : Int) (h0 : 1 ≤ n) (h1 : n ≤ 255) : right a ⟨n, [], [], []⟩ = true := by
  unfold right wantBits wantWords wantTexts shortTexts
  have e : ((n : Int) == 0) = false := beq_eq_false_iff_ne.2 (by omega)
  simp [h, e, show ¬ n = 0 by omega, show 0 ≤ n by omega, h1]
end An
end Go.Proofs.YtlgmjnjhdamknaaGreat
