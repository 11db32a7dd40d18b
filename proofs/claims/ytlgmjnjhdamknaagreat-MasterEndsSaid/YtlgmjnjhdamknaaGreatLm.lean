
/-
  The landed answer: what its reader makes of bytes (the mathematics), and that it is what the document reads.
-/
import Derived.Test.YtlgmjnjhdamknaaGreatAm
import Derived.Test.YtlgmjnjhdamknaaGreatMb
namespace Go.Proofs.YtlgmjnjhdamknaaGreat
open Go.RowKit

namespace An
/-- As many bytes as the next one tells. -/
def countedR : List UInt8 → Option (List UInt8 × List UInt8)
  | [] => none
  | n :: r => if n.toNat ≤ r.length then some (r.take n.toNat, r.drop n.toNat) else none
/-- Bytes that must be these. -/
def justR (p b : List UInt8) : Option (List UInt8) := if p.length ≤ b.length ∧ b.take p.length = p then some (b.drop p.length) else none
/-- A text at its place. -/
def textAt (i : Nat) : List UInt8 → Option (ByteArray × List UInt8)
  | [] => none
  | p :: r => if p.toNat = i then (countedR r).map fun x => (⟨x.1.toArray⟩, x.2) else none
def textsR : Nat → Nat → List UInt8 → Option (List ByteArray × List UInt8)
  | _, 0, b => some ([], b)
  | i, k + 1, b => match textAt i b with
    | none => none
    | some (s, r) => (textsR (i + 1) k r).map fun x => (s :: x.1, x.2)
def echo (a : Ask) : List UInt8 := if a.code = 15 ∨ a.code = 16 then ((Ak.bytes a).drop 1).take 4 else (Ak.bytes a).drop 1
def ahead (a : Ask) : List UInt8 := [14, b1 a.count.toNat, 1, 0, 0]
def textsAll (a : Ask) (b : List UInt8) : Option (List ByteArray × List UInt8) :=
  match justR (ahead a) b with
  | none => none
  | some [] => none
  | some (n :: r) => textsR a.addr.toNat n.toNat r
def bodyR (a : Ask) (b : List UInt8) : Option (Ans × List UInt8) :=
  if a.code = 1 ∨ a.code = 2 then
    match countedR b with
    | none => none
    | some (p, r) => if Word.isBitsI p a.count then some (⟨0, Word.ansBitsI p a.count, [], []⟩, r) else none
  else if a.code = 3 ∨ a.code = 4 ∨ a.code = 23 then
    match countedR b with
    | none => none
    | some (p, r) => if Word.isWords p then some (⟨0, [], Word.ansWords p, []⟩, r) else none
  else if a.code = 43 then (textsAll a b).map fun x => (⟨0, [], [], x.1⟩, x.2)
  else (justR (echo a) b).map fun r => (zero, r)
def answerR (a : Ask) : List UInt8 → Option (Ans × List UInt8)
  | [] => none
  | c :: r => if (c.toNat : Int) = 128 + a.code then
      match r with
      | [] => none
      | x :: r2 => if x.toNat = 0 then none else some (⟨x.toNat, [], [], []⟩, r2)
    else if (c.toNat : Int) = a.code then bodyR a r else none
def comes (a : Ask) (x : Ans) : Bool := Ak.right a && right a x
def readR (a : Ask) (b : List UInt8) : Ans × Nat :=
  match answerR a b with
  | none => (zero, 2)
  | some (x, r) => if r = [] ∧ right a x = true then (x, 0) else (zero, 2)

theorem countedR_cons (n : UInt8) (r : List UInt8) : countedR (n :: r) = if n.toNat ≤ r.length then some (r.take n.toNat, r.drop n.toNat) else none := rfl
theorem textAt_cons (i : Nat) (p : UInt8) (r : List UInt8) : textAt i (p :: r) = if p.toNat = i then (countedR r).map fun x => (⟨x.1.toArray⟩, x.2) else none := rfl
theorem answerR_cons (a : Ask) (c : UInt8) (r : List UInt8) : answerR a (c :: r) = if (c.toNat : Int) = 128 + a.code then
      match r with
      | [] => none
      | x :: r2 => if x.toNat = 0 then none else some (⟨x.toNat, [], [], []⟩, r2)
    else if (c.toNat : Int) = a.code then bodyR a r else none := by
  cases r <;> rfl
theorem countedR_some {b p r : List UInt8} (h : countedR b = some (p, r)) : p.length ≤ 255 ∧ b = b1 p.length :: (p ++ r) := by
  cases b with
  | nil => cases h
  | cons n t =>
    rw [countedR_cons] at h
    split at h
    · next hn =>
      simp only [Option.some.injEq, Prod.mk.injEq] at h
      obtain ⟨rfl, rfl⟩ := h
      have h1 := n.toNat_lt
      have h2 : (t.take n.toNat).length = n.toNat := by rw [List.length_take]; omega
      refine ⟨by omega, ?_⟩
      rw [h2, List.take_append_drop]
      congr 1
      unfold b1
      exact UInt8.ofNat_toNat.symm
    · cases h
theorem countedR_lay (p r : List UInt8) (h : p.length ≤ 255) : countedR (b1 p.length :: (p ++ r)) = some (p, r) := by
  rw [countedR_cons, b1_toNat _ (by omega), if_pos (by rw [List.length_append]; omega), List.take_left, List.drop_left]
theorem justR_some {p b r : List UInt8} (h : justR p b = some r) : b = p ++ r := by
  unfold justR at h
  split at h
  · next hn =>
    simp only [Option.some.injEq] at h
    subst h
    conv => lhs; rw [← List.take_append_drop p.length b, hn.2]
  · cases h
theorem justR_lay (p r : List UInt8) : justR p (p ++ r) = some r := by
  unfold justR
  rw [if_pos ⟨by rw [List.length_append]; omega, List.take_left⟩, List.drop_left]
theorem textAt_some {i : Nat} {b r : List UInt8} {s : ByteArray} (h : textAt i b = some (s, r)) : i < 256 ∧ s.size ≤ 255 ∧ b = b1 i :: b1 s.size :: (s.data.toList ++ r) := by
  cases b with
  | nil => cases h
  | cons p t =>
    rw [textAt_cons] at h
    split at h
    · next hp =>
      obtain ⟨⟨x, y⟩, hx, he⟩ := Option.map_eq_some_iff.1 h
      simp only [Prod.mk.injEq] at he
      obtain ⟨rfl, rfl⟩ := he
      obtain ⟨h1, h2⟩ := countedR_some hx
      have h3 := p.toNat_lt
      have hs : (⟨x.toArray⟩ : ByteArray).size = x.length := by simp [ByteArray.size]
      refine ⟨by omega, by rw [hs]; exact h1, ?_⟩
      rw [hs, h2, ← hp]
      congr 1
      unfold b1
      exact UInt8.ofNat_toNat.symm
    · cases h
theorem textAt_lay (i : Nat) (s : ByteArray) (r : List UInt8) (hi : i < 256) (hs : s.size ≤ 255) : textAt i (b1 i :: b1 s.size :: (s.data.toList ++ r)) = some (s, r) := by
  have hsz : s.data.toList.length = s.size := Array.length_toList
  rw [textAt_cons, b1_toNat _ hi, if_pos rfl, ← hsz, countedR_lay _ _ (by omega)]
  simp
theorem textsR_some : ∀ (k i : Nat) (b r : List UInt8) (l : List ByteArray), textsR i k b = some (l, r) → l.length = k ∧ b = laid i l ++ r := by
  intro k
  induction k with
  | zero =>
    intro i b r l h
    unfold textsR at h
    simp only [Option.some.injEq, Prod.mk.injEq] at h
    obtain ⟨rfl, rfl⟩ := h
    exact ⟨rfl, rfl⟩
  | succ k ih =>
    intro i b r l h
    unfold textsR at h
    split at h
    · cases h
    · next s t hs =>
      obtain ⟨⟨l2, r2⟩, hx, he⟩ := Option.map_eq_some_iff.1 h
      simp only [Prod.mk.injEq] at he
      obtain ⟨rfl, rfl⟩ := he
      obtain ⟨h1, h2⟩ := ih _ _ _ _ hx
      obtain ⟨_, _, h3⟩ := textAt_some hs
      refine ⟨by rw [List.length_cons, h1], ?_⟩
      rw [h3, h2]
      show _ = b1 i :: b1 s.size :: (s.data.toList ++ laid (i + 1) l2) ++ r2
      simp
theorem textsR_lay : ∀ (l : List ByteArray) (i : Nat) (r : List UInt8), i + l.length ≤ 256 → (∀ s ∈ l, s.size ≤ 245) → textsR i l.length (laid i l ++ r) = some (l, r) := by
  intro l
  induction l with
  | nil => intro i r _ _; rfl
  | cons s t ih =>
    intro i r hi hs
    rw [List.length_cons] at hi
    have e : laid i (s :: t) ++ r = b1 i :: b1 s.size :: (s.data.toList ++ (laid (i + 1) t ++ r)) := by
      show b1 i :: b1 s.size :: (s.data.toList ++ laid (i + 1) t) ++ r = _
      simp
    rw [e, List.length_cons]
    unfold textsR
    rw [textAt_lay _ _ _ (by omega) (by have := hs s (by simp); omega)]
    show (textsR (i + 1) t.length (laid (i + 1) t ++ r)).map _ = _
    rw [ih (i + 1) r (by omega) (fun x hx => hs x (by simp [hx]))]
    rfl

theorem text_first {a : Ask} (h : Ak.right a = true) : Ak.text a = b1 a.code.toNat :: (Ak.text a).drop 1 := by
  cases Ak.shape (ak_right h).1 with
  | count c addr n hc h0 h1 n0 n1 => rw [Ak.text_count c hc]; rfl
  | five addr b h0 h1 => rw [Ak.text_five]; rfl
  | six addr x h0 h1 => rw [Ak.text_six]; rfl
  | bits addr l h0 h1 l0 l1 => rw [Ak.text_bits]; rfl
  | words addr l h0 h1 l0 l1 => rw [Ak.text_words]; rfl
  | mask addr x y h0 h1 => rw [Ak.text_mask]; rfl
  | both addr n to l h0 h1 n0 n1 t0 t1 l0 l1 => rw [Ak.text_both]; rfl
  | ident addr n h0 h1 n0 n1 => rw [Ak.text_ident]; rfl
theorem text_echo {a : Ask} (h : Ak.right a = true) (hc : a.code = 5 ∨ a.code = 6 ∨ a.code = 22 ∨ a.code = 15 ∨ a.code = 16) : text a zero = b1 a.code.toNat :: echo a := by
  have h1 := text_first h
  have hb := (ak_right h).2
  unfold text echo
  rw [if_neg (by show ¬ (0 : Int) < 0; omega), if_neg (by omega), if_neg (by omega), hb]
  by_cases h5 : a.code = 5 ∨ a.code = 6 ∨ a.code = 22
  · rw [if_pos h5, if_neg (by omega)]
    exact h1
  · rw [if_neg h5, if_pos (by omega), if_pos (by omega)]
    conv => lhs; rw [h1]
    rfl
/-- What is read, and may come, has just these bytes. -/
theorem answerR_text {a : Ask} {b : List UInt8} {x : Ans} (h : Ak.right a = true) (hb : answerR a b = some (x, [])) (hx : right a x = true) : text a x = b := by
  obtain ⟨hc0, hc1⟩ := code_lt (ak_right h).1
  cases b with
  | nil => cases hb
  | cons c r =>
    have hcl := c.toNat_lt
    have hcb : ∀ n : Nat, c.toNat = n → b1 n = c := fun n hn => by unfold b1; rw [← hn]; exact UInt8.ofNat_toNat
    rw [answerR_cons] at hb
    split at hb
    · next hc =>
      cases r with
      | nil => cases hb
      | cons y r2 =>
        simp only at hb
        split at hb
        · cases hb
        · next hy =>
          simp only [Option.some.injEq, Prod.mk.injEq] at hb
          obtain ⟨rfl, rfl⟩ := hb
          unfold text
          rw [if_pos (by show (0 : Int) < (y.toNat : Int); omega), hcb _ (by omega)]
          show [c, b1 (y.toNat : Int).toNat] = _
          congr 1
          congr 1
          unfold b1
          rw [Int.toNat_natCast]
          exact UInt8.ofNat_toNat
    · split at hb
      · next hcn hc =>
        have hcc : b1 a.code.toNat = c := hcb _ (by omega)
        unfold bodyR at hb
        split at hb
        · next h12 =>
          split at hb
          · cases hb
          · next p r2 hp =>
            split at hb
            · next hi =>
              simp only [Option.some.injEq, Prod.mk.injEq] at hb
              obtain ⟨rfl, rfl⟩ := hb
              obtain ⟨g1, g2⟩ := countedR_some hp
              have g3 : Word.pack (Word.ansBitsI p a.count) = p := by
                unfold Word.ansBitsI
                rw [hi, if_pos rfl]
                unfold Word.isBitsI at hi
                rw [Bool.and_eq_true] at hi
                have := Word.pack_bitsOf p a.count.toNat
                rw [hi.2, beq_iff_eq] at this
                exact this
              unfold text
              rw [if_neg (by show ¬ (0 : Int) < 0; omega), if_pos h12, g2, hcc]
              show c :: b1 (Word.pack (Word.ansBitsI p a.count)).length :: Word.pack (Word.ansBitsI p a.count) = _
              rw [g3, List.append_nil]
            · cases hb
        · split at hb
          · next h12 h34 =>
            split at hb
            · cases hb
            · next p r2 hp =>
              split at hb
              · next hi =>
                simp only [Option.some.injEq, Prod.mk.injEq] at hb
                obtain ⟨rfl, rfl⟩ := hb
                obtain ⟨g1, g2⟩ := countedR_some hp
                have g3 : Word.bytes (Word.ansWords p) = p := by
                  unfold Word.ansWords
                  rw [hi, if_pos rfl]
                  exact bytes_words p hi
                unfold text
                rw [if_neg (by show ¬ (0 : Int) < 0; omega), if_neg h12, if_pos h34, g2, hcc]
                show c :: b1 (Word.bytes (Word.ansWords p)).length :: Word.bytes (Word.ansWords p) = _
                rw [g3, List.append_nil]
              · cases hb
          · split at hb
            · next h12 h34 h43 =>
              obtain ⟨⟨l, z⟩, hl, he⟩ := Option.map_eq_some_iff.1 hb
              simp only [Prod.mk.injEq] at he
              obtain ⟨rfl, rfl⟩ := he
              unfold textsAll at hl
              split at hl
              · cases hl
              · cases hl
              · next n r2 hj =>
                have g1 := justR_some hj
                obtain ⟨g2, g3⟩ := textsR_some _ _ _ _ _ hl
                unfold text
                rw [if_neg (by show ¬ (0 : Int) < 0; omega), if_neg h12, if_neg h34, if_neg (by omega), if_neg (by omega), g1, g3]
                show [43, 14, b1 a.count.toNat, 1, 0, 0, b1 l.length] ++ laid a.addr.toNat l = _
                rw [g2, show b1 n.toNat = n from UInt8.ofNat_toNat, ← hcc, h43]
                simp [ahead, b1]
            · next h12 h34 h43 =>
              obtain ⟨r3, hl, he⟩ := Option.map_eq_some_iff.1 hb
              simp only [Prod.mk.injEq] at he
              obtain ⟨rfl, rfl⟩ := he
              have hcd := (Ak.formed_parts (ak_right h).1).1
              simp only [Ak.codes, List.mem_cons, List.not_mem_nil, or_false] at hcd
              rw [text_echo h (by omega), hcc, justR_some hl, List.append_nil]
      · cases hb
theorem answerR_lay {a : Ask} {x : Ans} (h : Ak.right a = true) (hs : Shape a x) : answerR a (text a x) = some (x, []) := by
  obtain ⟨hc0, hc1⟩ := code_lt (ak_right h).1
  have hcode : ((b1 a.code.toNat).toNat : Int) = a.code := by rw [b1_toNat _ (by omega)]; omega
  have hb : ∀ r, answerR a (b1 a.code.toNat :: r) = bodyR a r := fun r => by
    rw [answerR_cons, hcode, if_neg (by omega), if_pos rfl]
  cases hs with
  | exc n h0 h1 =>
    have e : text a ⟨n, [], [], []⟩ = [b1 (128 + a.code.toNat), b1 n.toNat] := by unfold text; rw [if_pos (by dsimp only; omega)]
    rw [e]
    rw [answerR_cons, b1_toNat _ (by omega), if_pos (by omega)]
    simp only
    rw [b1_toNat _ (by omega), if_neg (by omega), Int.toNat_of_nonneg (by omega)]
  | bits l hc hl h1 =>
    have e : text a ⟨0, l, [], []⟩ = b1 a.code.toNat :: b1 (Word.pack l).length :: Word.pack l := by unfold text; rw [if_neg (by dsimp only; omega), if_pos hc]
    have hp := Word.pack_length l
    have hcr := countedR_lay (Word.pack l) [] (by omega)
    rw [List.append_nil] at hcr
    have hi : Word.isBitsI (Word.pack l) a.count = true := by
      rw [← hl, isBitsI_nat, Word.isBits_pack]
    rw [e, hb]
    unfold bodyR
    rw [if_pos hc, hcr]
    simp only
    rw [if_pos hi]
    unfold Word.ansBitsI
    rw [if_pos hi, ← hl, Int.toNat_natCast, Word.bitsOf_pack]
  | words l hc hl h1 =>
    have e : text a ⟨0, [], l, []⟩ = b1 a.code.toNat :: b1 (Word.bytes l).length :: Word.bytes l := by unfold text; rw [if_neg (by dsimp only; omega), if_neg (by omega), if_pos hc]
    have hp := Word.bytes_length l
    have hcr := countedR_lay (Word.bytes l) [] (by omega)
    rw [List.append_nil] at hcr
    rw [e, hb]
    unfold bodyR
    rw [if_neg (by omega), if_pos hc, hcr]
    simp only
    rw [if_pos (Word.isWords_bytes l), Word.ans_bytes]
  | back hc =>
    have e := text_echo h hc
    have hj := justR_lay (echo a) []
    rw [List.append_nil] at hj
    show answerR a (text a zero) = some (zero, [])
    rw [e, hb]
    unfold bodyR
    rw [if_neg (by omega), if_neg (by omega), if_neg (by omega), hj]
    rfl
  | texts l hc h0 hs h1 h2 =>
    have ha0 : 0 ≤ a.addr := (Ak.formed_parts (ak_right h).1).2.2.2.2.2.2.1
    have e : text a ⟨0, [], [], l⟩ = b1 a.code.toNat :: (ahead a ++ (b1 l.length :: laid a.addr.toNat l)) := by
      unfold text
      rw [if_neg (by dsimp only; omega), if_neg (by omega), if_neg (by omega), if_neg (by omega), if_neg (by omega), hc]
      simp [ahead, b1]
    have hl1 : l.length ≤ 127 := by
      have h3 := laid_length l a.addr.toNat 7 h1
      have h4 : ∀ (l : List ByteArray) (i : Nat), 2 * l.length ≤ (laid i l).length := by
        intro l
        induction l with
        | nil => intro i; simp
        | cons s t ih =>
          intro i
          have := ih (i + 1)
          show _ ≤ (b1 i :: b1 s.size :: (s.data.toList ++ laid (i + 1) t)).length
          simp only [List.length_cons, List.length_append]
          omega
      have h5 := h4 l a.addr.toNat
      unfold long at h1
      omega
    have hr := textsR_lay l a.addr.toNat [] (by omega) hs
    rw [List.append_nil] at hr
    rw [e, hb]
    unfold bodyR
    rw [if_neg (by omega), if_neg (by omega), if_pos hc]
    unfold textsAll
    rw [justR_lay]
    simp only
    rw [b1_toNat _ (by omega), hr]
    rfl
theorem readR_eq {a : Ask} (h : Ak.right a = true) (b : List UInt8) : readR a b = read a b := by
  by_cases hr : (read a b).2 = 0
  · rcases read_back a b with ⟨_, h1, h2⟩ | ⟨h1, _⟩
    · have h3 := answerR_lay h (shape h1)
      rw [h2] at h3
      unfold readR
      rw [h3]
      show (if ([] : List UInt8) = [] ∧ right a (read a b).1 = true then ((read a b).1, 0) else (zero, 2)) = _
      rw [if_pos (show ([] : List UInt8) = [] ∧ right a (read a b).1 = true from ⟨rfl, h1⟩)]
      exact Prod.ext rfl hr.symm
    · exact absurd hr h1
  · have hz : read a b = (zero, 2) := by
      have h0 := hr
      unfold read at h0 ⊢
      rw [if_neg (by rw [h]; simp)] at h0 ⊢
      split at h0
      · next g => rw [if_pos g]
      · exact absurd rfl h0
    rw [hz]
    unfold readR
    split
    · rfl
    · next x r hx =>
      split
      · next g =>
        obtain ⟨rfl, g2⟩ := g
        have h1 := answerR_text h hx g2
        have h2 := read_text g2
        rw [h1, hz] at h2
        cases h2
      · rfl
theorem right_zero_exc (a : Ask) : right a zero = false ∨ a.code = 5 ∨ a.code = 6 ∨ a.code = 22 ∨ a.code = 15 ∨ a.code = 16 ∨ Ak.right a = false := by
  by_cases hr : right a zero = true
  · have hs := shape hr
    generalize hz : zero = z at hs
    cases hs with
    | exc n h0 h1 => unfold zero at hz; injection hz with e; omega
    | bits l hc hl h1 =>
      unfold zero at hz
      injection hz with _ e
      subst e
      have hf := (Ak.formed_parts (ak_right (right_parts hr).1).1).2.1
      have := Ak.fits_most (m := (Ak.most a.code).1) hf (by rcases hc with e | e <;> rw [e] <;> decide)
      simp only [List.length_nil] at hl
      omega
    | words l hc hl h1 =>
      unfold zero at hz
      injection hz with _ _ e
      subst e
      have hf := (Ak.formed_parts (ak_right (right_parts hr).1).1).2.1
      have := Ak.fits_most (m := (Ak.most a.code).1) hf (by rcases hc with e | e | e <;> rw [e] <;> decide)
      simp only [List.length_nil] at hl
      omega
    | back hc => omega
    | texts l hc h0 hs h1 h2 =>
      unfold zero at hz
      injection hz with _ _ _ e
      subst e
      simp at h0
  · exact .inl (by simpa using hr)
end An
#print axioms An.readR_eq
end Go.Proofs.YtlgmjnjhdamknaaGreat
