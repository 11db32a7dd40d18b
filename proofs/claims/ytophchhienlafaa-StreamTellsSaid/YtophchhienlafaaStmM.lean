/-
  A stream: however bytes are parted (the mathematics).
-/
import Derived.Test.YtophchhienlafaaFr
namespace Go.Proofs.Ytophchhienlafaa.Stm
open Go.Proofs.Ytophchhienlafaa

theorem getD_append (b c : List UInt8) (j : Nat) (h : j < b.length) : (b ++ c).getD j 0 = b.getD j 0 := by
  rw [List.getD_eq_getElem?_getD, List.getD_eq_getElem?_getD, List.getElem?_append_left h]
theorem follow_append (b c : List UInt8) (h : 6 ≤ b.length) : Mb.follow (b ++ c) = Mb.follow b := by
  unfold Mb.follow
  rw [getD_append b c 4 (by omega), getD_append b c 5 (by omega)]
theorem code_bad {b : List UInt8} (h : Mb.codeB b = 2) (c : List UInt8) : Mb.codeB (b ++ c) = 2 := by
  unfold Mb.codeB at h
  split at h
  · next h1 => exact Mb.codeB_kind _ (by rw [List.length_append]; omega) (by rw [getD_append b c 2 (by omega), getD_append b c 3 (by omega)]; exact h1.2)
  · split at h
    · next h2 => exact Mb.codeB_odd _ (by rw [List.length_append]; omega) (by rw [follow_append b c h2.1]; exact h2.2)
    · split at h <;> omega
theorem code_good {b : List UInt8} (h : Mb.codeB b = 0) (c : List UInt8) : Mb.codeB (b ++ c) = 0 := by
  obtain ⟨h2, h3, hf, hg, hl⟩ := Mb.codeB_zero h
  have e := follow_append b c (by omega)
  exact Mb.codeB_good _ (by rw [getD_append b c 2 (by omega)]; exact h2) (by rw [getD_append b c 3 (by omega)]; exact h3) (by omega) (by omega) (by rw [e, List.length_append]; omega)
theorem size_append {b : List UInt8} (h : Mb.codeB b = 0) (c : List UInt8) : Mb.size (b ++ c) = Mb.size b := by
  obtain ⟨_, _, _, _, hl⟩ := Mb.codeB_zero h
  rw [Mb.size_good _ h, Mb.size_good _ (code_good h c), follow_append b c (by omega)]
theorem tid_append {b : List UInt8} (h : Mb.codeB b = 0) (c : List UInt8) : Mb.tid (b ++ c) = Mb.tid b := by
  obtain ⟨_, _, _, _, hl⟩ := Mb.codeB_zero h
  rw [Mb.tid_good _ h, Mb.tid_good _ (code_good h c), getD_append b c 0 (by omega), getD_append b c 1 (by omega)]
theorem unit_append {b : List UInt8} (h : Mb.codeB b = 0) (c : List UInt8) : Mb.unit (b ++ c) = Mb.unit b := by
  obtain ⟨_, _, hf, _, hl⟩ := Mb.codeB_zero h
  rw [Mb.unit_good _ h, Mb.unit_good _ (code_good h c), getD_append b c 6 (by omega)]
theorem pdu_append {b : List UInt8} (h : Mb.codeB b = 0) (c : List UInt8) : Mb.pdu (b ++ c) = Mb.pdu b := by
  obtain ⟨_, _, hf, _, hl⟩ := Mb.codeB_zero h
  rw [Mb.pdu_good _ h, Mb.pdu_good _ (code_good h c), follow_append b c (by omega), List.drop_append_of_le_length (by omega), List.take_append_of_le_length (by rw [List.length_drop]; omega)]
theorem drop_append {b : List UInt8} (h : Mb.codeB b = 0) (c : List UInt8) : (b ++ c).drop (Mb.size (b ++ c)) = b.drop (Mb.size b) ++ c := by
  have := Mb.again_size h
  rw [size_append h, List.drop_append_of_le_length (by omega)]

theorem cut_parts (b c : List UInt8) : cut (b ++ c) = if (cut b).2.2 then ((cut b).1, [], true) else ((cut b).1 ++ (cut ((cut b).2.1 ++ c)).1, (cut ((cut b).2.1 ++ c)).2) := by
  by_cases h0 : Mb.codeB b = 0
  · have hd := drop_less h0
    have ih := cut_parts (b.drop (Mb.size b)) c
    rw [cut_frame (code_good h0 c), cut_frame h0, drop_append h0, tid_append h0, unit_append h0, pdu_append h0, ih]
    split
    · rfl
    · rfl
  · by_cases h2 : Mb.codeB b = 2
    · rw [cut_bad h2, cut_bad (code_bad h2 c)]
      rfl
    · rw [cut_short h0 h2]
      rfl
termination_by b.length
decreasing_by
  have := drop_less h0
  omega
theorem cut_bad_left (b : List UInt8) (h : (cut b).2.2 = true) : (cut b).2.1 = [] := by
  by_cases h0 : Mb.codeB b = 0
  · have hd := drop_less h0
    rw [cut_frame h0] at h ⊢
    exact cut_bad_left _ h
  · by_cases h2 : Mb.codeB b = 2
    · rw [cut_bad h2]
    · rw [cut_short h0 h2] at h
      cases h
termination_by b.length
decreasing_by
  have := drop_less h0
  omega
theorem short_length {b : List UInt8} (h0 : Mb.codeB b ≠ 0) (h2 : Mb.codeB b ≠ 2) : b.length < 260 := by
  unfold Mb.codeB at h0 h2
  split at h0
  · next h1 => rw [if_pos h1] at h2; exact absurd rfl h2
  · next h1 =>
    rw [if_neg h1] at h2
    split at h0
    · next h3 => rw [if_pos h3] at h2; exact absurd rfl h2
    · next h3 =>
      split at h0
      · next h4 => omega
      · exact absurd rfl h0
theorem cut_held (b : List UInt8) : (cut b).2.1.length < 260 := by
  by_cases h0 : Mb.codeB b = 0
  · have hd := drop_less h0
    rw [cut_frame h0]
    exact cut_held _
  · by_cases h2 : Mb.codeB b = 2
    · rw [cut_bad h2]; simp
    · rw [cut_short h0 h2]; exact short_length h0 h2
termination_by b.length
decreasing_by
  have := drop_less h0
  omega
theorem cut_count (b : List UInt8) : (cut b).1.length + (cut b).2.1.length ≤ b.length := by
  by_cases h0 : Mb.codeB b = 0
  · have hd := drop_less h0
    have ih := cut_count (b.drop (Mb.size b))
    rw [cut_frame h0]
    simp only [List.length_cons]
    omega
  · by_cases h2 : Mb.codeB b = 2
    · rw [cut_bad h2]; simp
    · rw [cut_short h0 h2]; simp
termination_by b.length
decreasing_by
  have := drop_less h0
  omega

/-- The bytes of frames, one behind the other. -/
def all : List Fr → List UInt8
  | [] => []
  | x :: l => Mb.bytes x.t x.u x.p ++ all l
theorem cut_nil : cut [] = ([], [], false) := cut_short (by decide) (by decide)
theorem cut_all : ∀ (l : List Fr), (∀ x ∈ l, Mb.codeP x.p = 0) → cut (all l) = (l, [], false)
  | [], _ => cut_nil
  | x :: l, h => by
    have hx := h x (by simp)
    have ih := cut_all l (fun y hy => h y (by simp [hy]))
    have hs := Mb.there_size x.t x.u x.p (all l) hx
    have hd : (Mb.bytes x.t x.u x.p ++ all l).drop (Mb.size (Mb.bytes x.t x.u x.p ++ all l)) = all l := by
      rw [hs, ← Mb.bytes_length (t := x.t) (u := x.u) hx, List.drop_left]
    show cut (Mb.bytes x.t x.u x.p ++ all l) = _
    rw [cut_frame (Mb.there x.t x.u x.p (all l) hx), hd, ih, Mb.there_tid _ _ _ _ hx, Mb.there_unit _ _ _ _ hx, Mb.there_pdu _ _ _ _ hx]
theorem parted {b c : List UInt8} {l : List Fr} (h : cut (b ++ c) = (l, [], false)) : (cut b).2.2 = false ∧ (cut b).1 ++ (cut ((cut b).2.1 ++ c)).1 = l ∧ (cut ((cut b).2.1 ++ c)).2.1 = [] ∧ (cut ((cut b).2.1 ++ c)).2.2 = false := by
  rw [cut_parts] at h
  split at h
  · cases h
  · next hb =>
    refine ⟨by simpa using hb, ?_, ?_, ?_⟩
    · exact congrArg (·.1) h
    · exact congrArg (·.2.1) h
    · exact congrArg (·.2.2) h
end Go.Proofs.Ytophchhienlafaa.Stm
