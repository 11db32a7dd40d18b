/-
  Plain mathematics of frames: there and back; turned bits.
-/
import Derived.Test.YtlabjopmimnifaaRtu
namespace Go.Proofs.Ytlabjopmimnifaa
open Go.RowKit

namespace Crc
theorem more_put (l : List UInt8) : more 65535 (put l) = 0 := by
  unfold put tail
  rw [more_append, more_own _ (more_lt l (by omega))]
theorem isPut_eq {b : List UInt8} (h : isPut b = true) : 2 ≤ b.length ∧ put (front b) = b := by
  unfold isPut at h
  rw [Bool.and_eq_true, beq_iff_eq] at h
  exact ⟨of_decide_eq_true h.1, h.2⟩
theorem more_isPut {b : List UInt8} (h : isPut b = true) : more 65535 b = 0 := by
  have := more_put (front b)
  rwa [(isPut_eq h).2] at this
theorem front_put_eq (l : List UInt8) : front (put l) = l := by
  unfold front
  rw [put_length, Nat.add_sub_cancel]
  unfold put
  rw [List.take_left]
theorem isPut_put (l : List UInt8) : isPut (put l) = true := by
  rw [isPut_long _ (by rw [put_length]; omega), front_put_eq]
  simp
end Crc
namespace Rtu
theorem codeP_zero {p : List UInt8} (h : codeP p = 0) : 0 < p.length ∧ p.length ≤ 253 := by
  unfold codeP at h
  split at h
  · omega
  · split at h <;> omega
theorem codeB_zero {b : List UInt8} (h : codeB b = 0) : 4 ≤ b.length ∧ b.length ≤ 256 ∧ Crc.isPut b = true := by
  unfold codeB at h
  split at h
  · omega
  · split at h
    · omega
    · split at h
      · exact ⟨by omega, by omega, by assumption⟩
      · omega
theorem bytes_length {u : UInt8} {p : List UInt8} (h : codeP p = 0) : (bytes u p).length = p.length + 3 := by
  rw [bytes_good u p h, Crc.put_length, List.length_cons]
theorem there {u : UInt8} {p : List UInt8} (h : codeP p = 0) : codeB (bytes u p) = 0 := by
  have h2 := codeP_zero h
  have h3 := bytes_length (u := u) h
  exact codeB_good _ (by omega) (by omega) (by rw [bytes_good u p h]; exact Crc.isPut_put _)
theorem there_unit {u : UInt8} {p : List UInt8} (h : codeP p = 0) : unit (bytes u p) = u := by
  unfold unit
  rw [if_pos (there h), bytes_good u p h]
  rfl
theorem there_pdu {u : UInt8} {p : List UInt8} (h : codeP p = 0) : pdu (bytes u p) = p := by
  unfold pdu
  rw [if_pos (there h), bytes_good u p h, Crc.front_put_eq]
  rfl
theorem head_tail (f : List UInt8) (h : 0 < f.length) : f = f[0] :: f.tail := by
  cases f with
  | nil => simp at h
  | cons x r => rfl
theorem front_parts {b : List UInt8} (h : codeB b = 0) : Crc.front b = unit b :: pdu b := by
  have h2 := codeB_zero h
  unfold pdu unit
  rw [if_pos h, if_pos h]
  have hl : (Crc.front b).length = b.length - 2 := Crc.front_length b
  have h0 : b.getD 0 0 = (Crc.front b)[0]'(by omega) := by
    unfold Crc.front
    rw [List.getElem_take, List.getD_eq_getElem?_getD, List.getElem?_eq_getElem (by omega)]
    rfl
  rw [h0, List.drop_one]
  exact head_tail _ (by omega)
theorem back_code {b : List UInt8} (h : codeB b = 0) : codeP (pdu b) = 0 := by
  have h2 := codeB_zero h
  have h3 := congrArg List.length (front_parts h)
  rw [Crc.front_length, List.length_cons] at h3
  exact codeP_good _ (by omega) (by omega)
theorem back_bytes {b : List UInt8} (h : codeB b = 0) : bytes (unit b) (pdu b) = b := by
  rw [bytes_good _ _ (back_code h), ← front_parts h]
  exact (Crc.isPut_eq (codeB_zero h).2.2).2
theorem same_self (u : UInt8) (p : List UInt8) : same u p u p = true := by unfold same; simp
/-- Turned in up to 16 bits, at least one of them, the bytes of a frame are none. -/
theorem turned {u : UInt8} {p cs : List UInt8} (h : codeP p = 0) (at_ t : Nat) (hl : cs.length = (bytes u p).length) (hn : Crc.num cs = Crc.num (bytes u p) ^^^ (t * 2 ^ at_)) (ha : at_ ≤ 8 * (bytes u p).length) (ht : t < 65536) (h0 : t ≠ 0) : codeB cs = 6 := by
  have h2 := codeP_zero h
  have h3 := bytes_length (u := u) h
  refine codeB_sum cs (by omega) (by omega) ?_
  cases hp : Crc.isPut cs with
  | false => rfl
  | true =>
    have h4 := Crc.more_isPut hp
    have h5 := Crc.more_isPut (codeB_zero (there (u := u) h)).2.2
    exact absurd (h5.trans h4.symm) (Crc.more_burst (bytes u p) cs 65535 at_ t hl hn ha ht h0)
end Rtu
end Go.Proofs.Ytlabjopmimnifaa
