/-
  Frames of a connection: the mathematics of 'there and back'.
-/
import Derived.Test.YtophchhienlafaaMb
namespace Go.Proofs.Ytophchhienlafaa.Mb

theorem two8 (n : Nat) (h : n < 65536) : 256 * (UInt8.ofNat (n / 256)).toNat + (UInt8.ofNat (n % 256)).toNat = n := by
  rw [UInt8.toNat_ofNat', UInt8.toNat_ofNat']
  omega
theorem two16 (t : UInt16) : UInt16.ofNat (256 * (UInt8.ofNat (t.toNat / 256)).toNat + (UInt8.ofNat (t.toNat % 256)).toNat) = t := by
  rw [two8 _ t.toNat_lt]
  exact UInt16.ofNat_toNat
theorem hi8 (x y : UInt8) : UInt8.ofNat ((256 * x.toNat + y.toNat) / 256) = x := by
  have hx := x.toNat_lt
  have hy := y.toNat_lt
  have : (256 * x.toNat + y.toNat) / 256 = x.toNat := by omega
  rw [this]
  exact UInt8.ofNat_toNat
theorem lo8 (x y : UInt8) : UInt8.ofNat ((256 * x.toNat + y.toNat) % 256) = y := by
  have hx := x.toNat_lt
  have hy := y.toNat_lt
  have : (256 * x.toNat + y.toNat) % 256 = y.toNat := by omega
  rw [this]
  exact UInt8.ofNat_toNat
theorem nat16 (x y : UInt8) : (UInt16.ofNat (256 * x.toNat + y.toNat)).toNat = 256 * x.toNat + y.toNat := by
  have hx := x.toNat_lt
  have hy := y.toNat_lt
  rw [UInt16.toNat_ofNat']
  omega

section
variable (t : UInt16) (u : UInt8) (p more : List UInt8)
theorem laid : head t u (p.length + 1) ++ p ++ more = UInt8.ofNat (t.toNat / 256) :: UInt8.ofNat (t.toNat % 256) :: 0 :: 0 :: UInt8.ofNat ((p.length + 1) / 256) :: UInt8.ofNat ((p.length + 1) % 256) :: u :: (p ++ more) := by simp [head]
theorem laid_follow (h : p.length ≤ 253) : follow (head t u (p.length + 1) ++ p ++ more) = p.length + 1 := by
  rw [laid]
  exact two8 _ (by omega)
theorem there (h : codeP p = 0) : codeB (bytes t u p ++ more) = 0 := by
  obtain ⟨h0, h1⟩ := codeP_zero h
  rw [bytes_good t u p h]
  have hf := laid_follow t u p more h1
  exact codeB_good _ (by rw [laid]; rfl) (by rw [laid]; rfl) (by omega) (by omega) (by rw [hf]; simp [head]; omega)
theorem there_follow (h : codeP p = 0) : follow (bytes t u p ++ more) = p.length + 1 := by
  rw [bytes_good t u p h]
  exact laid_follow t u p more (codeP_zero h).2
theorem there_size (h : codeP p = 0) : size (bytes t u p ++ more) = p.length + 7 := by
  rw [size_good _ (there t u p more h), there_follow t u p more h]
  omega
theorem there_tid (h : codeP p = 0) : tid (bytes t u p ++ more) = t := by
  rw [tid_good _ (there t u p more h), bytes_good t u p h, laid]
  exact two16 t
theorem there_unit (h : codeP p = 0) : unit (bytes t u p ++ more) = u := by
  rw [unit_good _ (there t u p more h), bytes_good t u p h, laid]
  rfl
theorem there_pdu (h : codeP p = 0) : pdu (bytes t u p ++ more) = p := by
  rw [pdu_good _ (there t u p more h), there_follow t u p more h, bytes_good t u p h, laid]
  simp

theorem cutoff (h : codeP p = 0) (k : Nat) (hk : k < (bytes t u p).length) : codeB ((bytes t u p).take k) = 3 := by
  obtain ⟨h0, h1⟩ := codeP_zero h
  rw [bytes_length h] at hk
  have hb := laid t u p []
  rw [List.append_nil, List.append_nil] at hb
  have hlen : ((bytes t u p).take k).length = k := by rw [List.length_take, bytes_length h]; omega
  have hget : ∀ j, j < k → ((bytes t u p).take k).getD j 0 = (bytes t u p).getD j 0 := by
    intro j hj
    rw [List.getD_eq_getElem?_getD, List.getD_eq_getElem?_getD, List.getElem?_take, if_pos hj]
  have h2 : (bytes t u p).getD 2 0 = 0 := by rw [bytes_good t u p h, hb]; rfl
  have h3 : (bytes t u p).getD 3 0 = 0 := by rw [bytes_good t u p h, hb]; rfl
  have hf : follow (bytes t u p) = p.length + 1 := by have := there_follow t u p [] h; rwa [List.append_nil] at this
  by_cases h6 : k < 6
  · refine codeB_few _ ?_ (by omega)
    by_cases h4 : k < 4
    · exact .inl (by omega)
    · exact .inr ⟨by rw [hget 2 (by omega)]; exact h2, by rw [hget 3 (by omega)]; exact h3⟩
  · have hf' : follow ((bytes t u p).take k) = p.length + 1 := by
      rw [← hf]
      unfold follow
      rw [hget 4 (by omega), hget 5 (by omega)]
    exact codeB_short _ (by rw [hget 2 (by omega)]; exact h2) (by rw [hget 3 (by omega)]; exact h3) (by omega) (by omega) (.inr (by omega))
end

theorem again_code {b : List UInt8} (h : codeB b = 0) : codeP (pdu b) = 0 := by
  have := codeB_zero h
  exact codeP_good _ (by rw [pdu_length h]; omega) (by rw [pdu_length h]; omega)
theorem again_size {b : List UInt8} (h : codeB b = 0) : 8 ≤ size b ∧ size b ≤ b.length := by
  have := codeB_zero h
  rw [size_good b h]
  omega
theorem again_bytes {b : List UInt8} (h : codeB b = 0) : bytes (tid b) (unit b) (pdu b) = b.take (size b) := by
  have hp := pdu_length h
  obtain ⟨h2, h3, hf, hg, hl⟩ := codeB_zero h
  rw [bytes_good _ _ _ (again_code h), hp, size_good b h, tid_good b h, unit_good b h, pdu_good b h]
  have hfe : follow b - 1 + 1 = follow b := by omega
  rw [hfe]
  match b, hl, h2, h3, hf with
  | b0 :: b1 :: b2 :: b3 :: b4 :: b5 :: b6 :: r, hl, h2, h3, hf =>
    have e2 : b2 = 0 := h2
    have e3 : b3 = 0 := h3
    have ef : follow (b0 :: b1 :: b2 :: b3 :: b4 :: b5 :: b6 :: r) = 256 * b4.toNat + b5.toNat := rfl
    generalize hF : follow (b0 :: b1 :: b2 :: b3 :: b4 :: b5 :: b6 :: r) = F at *
    obtain ⟨k, rfl⟩ : ∃ k, F = k + 1 := ⟨F - 1, by omega⟩
    have et : 6 + (k + 1) = k + 7 := by omega
    rw [et, ef]
    subst e2
    subst e3
    simp only [head, List.getD_cons_zero, List.getD_cons_succ, nat16, hi8, lo8, List.take_succ_cons, List.drop_succ_cons, List.drop_zero, List.cons_append, List.nil_append]
    have ek : 256 * b4.toNat + b5.toNat - 1 = k := by omega
    rw [ek]
  | [], hl, _, _, hf => simp at hl
  | [_], hl, _, _, hf => simp at hl; omega
  | [_, _], hl, _, _, hf => simp at hl; omega
  | [_, _, _], hl, _, _, hf => simp at hl; omega
  | [_, _, _, _], hl, _, _, hf => simp at hl; omega
  | [_, _, _, _, _], hl, _, _, hf => simp at hl; omega
  | [_, _, _, _, _, _], hl, _, _, hf => simp at hl; omega
end Go.Proofs.Ytophchhienlafaa.Mb
