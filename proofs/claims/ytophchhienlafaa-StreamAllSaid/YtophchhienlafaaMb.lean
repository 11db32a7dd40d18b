/-
  Frames of a connection: what the document's layer 4 answers (the mathematics, and what a call leaves).
-/
import Derived.Test.YtophchhienlafaaRow
namespace Go.Proofs.Ytophchhienlafaa
open Go.RowKit

namespace Mb
def codeP (p : List UInt8) : Nat := if p.length = 0 then 3 else if 253 < p.length then 4 else 0
def head (t : UInt16) (u : UInt8) (n : Nat) : List UInt8 := [UInt8.ofNat (t.toNat / 256), UInt8.ofNat (t.toNat % 256), 0, 0, UInt8.ofNat (n / 256), UInt8.ofNat (n % 256), u]
def bytes (t : UInt16) (u : UInt8) (p : List UInt8) : List UInt8 := if codeP p = 0 then head t u (p.length + 1) ++ p else []
def follow (b : List UInt8) : Nat := 256 * (b.getD 4 0).toNat + (b.getD 5 0).toNat
def codeB (b : List UInt8) : Nat :=
  if 4 ≤ b.length ∧ (b.getD 2 0 ≠ 0 ∨ b.getD 3 0 ≠ 0) then 2
  else if 6 ≤ b.length ∧ (follow b < 2 ∨ 254 < follow b) then 2
  else if b.length < 7 ∨ b.length < 6 + follow b then 3 else 0
def size (b : List UInt8) : Nat := if codeB b = 0 then 6 + follow b else 0
def tid (b : List UInt8) : UInt16 := if codeB b = 0 then UInt16.ofNat (256 * (b.getD 0 0).toNat + (b.getD 1 0).toNat) else 0
def unit (b : List UInt8) : UInt8 := if codeB b = 0 then b.getD 6 0 else 0
def pdu (b : List UInt8) : List UInt8 := if codeB b = 0 then (b.drop 7).take (follow b - 1) else []
def same (t : UInt16) (u : UInt8) (p : List UInt8) (s : UInt16) (v : UInt8) (q : List UInt8) : Bool := t == s && u == v && p == q
theorem codeP_none (p : List UInt8) (h : p.length = 0) : codeP p = 3 := by unfold codeP; rw [if_pos h]
theorem codeP_many (p : List UInt8) (h : 253 < p.length) : codeP p = 4 := by unfold codeP; rw [if_neg (by omega), if_pos h]
theorem codeP_good (p : List UInt8) (h0 : 0 < p.length) (h1 : p.length ≤ 253) : codeP p = 0 := by unfold codeP; rw [if_neg (by omega), if_neg (by omega)]
theorem codeP_zero {p : List UInt8} (h : codeP p = 0) : 0 < p.length ∧ p.length ≤ 253 := by
  unfold codeP at h
  split at h
  · omega
  · split at h <;> omega
theorem bytes_bad (t : UInt16) (u : UInt8) (p : List UInt8) (h : codeP p ≠ 0) : bytes t u p = [] := by unfold bytes; rw [if_neg h]
theorem bytes_good (t : UInt16) (u : UInt8) (p : List UInt8) (h : codeP p = 0) : bytes t u p = head t u (p.length + 1) ++ p := by unfold bytes; rw [if_pos h]
theorem bytes_length {t : UInt16} {u : UInt8} {p : List UInt8} (h : codeP p = 0) : (bytes t u p).length = p.length + 7 := by rw [bytes_good t u p h]; simp [head]
theorem bytes_le (t : UInt16) (u : UInt8) (p : List UInt8) : (bytes t u p).length ≤ 260 := by
  by_cases hc : codeP p = 0
  · rw [bytes_length hc]; have := codeP_zero hc; omega
  · rw [bytes_bad t u p hc]; simp
theorem codeB_kind (b : List UInt8) (h : 4 ≤ b.length) (h1 : b.getD 2 0 ≠ 0 ∨ b.getD 3 0 ≠ 0) : codeB b = 2 := by unfold codeB; rw [if_pos ⟨h, h1⟩]
theorem codeB_odd (b : List UInt8) (h0 : 6 ≤ b.length) (h1 : follow b < 2 ∨ 254 < follow b) : codeB b = 2 := by
  unfold codeB; split
  · rfl
  · rw [if_pos ⟨h0, h1⟩]
theorem codeB_few (b : List UInt8) (h0 : b.length < 4 ∨ (b.getD 2 0 = 0 ∧ b.getD 3 0 = 0)) (h1 : b.length < 6) : codeB b = 3 := by
  unfold codeB
  rw [if_neg (by rintro ⟨h, h'⟩; rcases h0 with h0 | ⟨ha, hb⟩; omega; rcases h' with h' | h' <;> contradiction), if_neg (by omega), if_pos (by omega)]
theorem codeB_short (b : List UInt8) (h2 : b.getD 2 0 = 0) (h3 : b.getD 3 0 = 0) (hf : 2 ≤ follow b) (hg : follow b ≤ 254) (h1 : b.length < 7 ∨ b.length < 6 + follow b) : codeB b = 3 := by
  unfold codeB
  rw [if_neg (by rintro ⟨h, h'⟩; rcases h' with h' | h' <;> contradiction), if_neg (by omega), if_pos h1]
theorem codeB_good (b : List UInt8) (h2 : b.getD 2 0 = 0) (h3 : b.getD 3 0 = 0) (hf : 2 ≤ follow b) (hg : follow b ≤ 254) (h1 : 6 + follow b ≤ b.length) : codeB b = 0 := by
  unfold codeB
  rw [if_neg (by rintro ⟨h, h'⟩; rcases h' with h' | h' <;> contradiction), if_neg (by omega), if_neg (by omega)]
theorem codeB_zero {b : List UInt8} (h : codeB b = 0) : b.getD 2 0 = 0 ∧ b.getD 3 0 = 0 ∧ 2 ≤ follow b ∧ follow b ≤ 254 ∧ 6 + follow b ≤ b.length := by
  unfold codeB at h
  split at h
  · omega
  · next h0 =>
    split at h
    · omega
    · next h1 =>
      split at h
      · omega
      · next h2 =>
        refine ⟨?_, ?_, by omega, by omega, by omega⟩
        · by_cases hx : b.getD 2 0 = 0
          · exact hx
          · exact absurd ⟨by omega, .inl hx⟩ h0
        · by_cases hx : b.getD 3 0 = 0
          · exact hx
          · exact absurd ⟨by omega, .inr hx⟩ h0
theorem size_bad (b : List UInt8) (h : codeB b ≠ 0) : size b = 0 := by unfold size; rw [if_neg h]
theorem tid_bad (b : List UInt8) (h : codeB b ≠ 0) : tid b = 0 := by unfold tid; rw [if_neg h]
theorem unit_bad (b : List UInt8) (h : codeB b ≠ 0) : unit b = 0 := by unfold unit; rw [if_neg h]
theorem pdu_bad (b : List UInt8) (h : codeB b ≠ 0) : pdu b = [] := by unfold pdu; rw [if_neg h]
theorem size_good (b : List UInt8) (h : codeB b = 0) : size b = 6 + follow b := by unfold size; rw [if_pos h]
theorem tid_good (b : List UInt8) (h : codeB b = 0) : tid b = UInt16.ofNat (256 * (b.getD 0 0).toNat + (b.getD 1 0).toNat) := by unfold tid; rw [if_pos h]
theorem unit_good (b : List UInt8) (h : codeB b = 0) : unit b = b.getD 6 0 := by unfold unit; rw [if_pos h]
theorem pdu_good (b : List UInt8) (h : codeB b = 0) : pdu b = (b.drop 7).take (follow b - 1) := by unfold pdu; rw [if_pos h]
theorem pdu_length {b : List UInt8} (h : codeB b = 0) : (pdu b).length = follow b - 1 := by
  rw [pdu_good b h, List.length_take, List.length_drop]
  have := codeB_zero h
  omega
theorem pdu_most (b : List UInt8) : (pdu b).length ≤ 254 := by
  by_cases h : codeB b = 0
  · rw [pdu_length h]; have := codeB_zero h; omega
  · rw [pdu_bad b h]; simp
theorem same_self (t : UInt16) (u : UInt8) (p : List UInt8) : same t u p t u p = true := by simp [same]
end Mb

/-- What Bytes of layer 4 leaves: the bytes are the call's own. -/
def BytesPost (w : World) (t : UInt16) (u : UInt8) (p : List UInt8) (e : Ending) (w' : World) : Prop :=
  ∃ A n c, e = .returned (.tuple #[.slice A n c, .int .i64 ((Mb.codeP p : Nat) : Int)]) ∧ (Mb.bytes t u p).length = n ∧ w'.ownsRow w.heap.size 5 1 (.slice A n c) n ((Mb.bytes t u p).map u8v) ∧ Below w.heap.size w w'
theorem BytesPost.bad (w w' : World) (t : UInt16) (u : UInt8) (p : List UInt8) (k : Nat) (h : Mb.codeP p = k) (hk : k ≠ 0) (hb : Below w.heap.size w w') : BytesPost w t u p (.returned (.tuple #[.slice Option.none 0 0, .int .i64 (k : Int)])) w' :=
  have hc : Mb.bytes t u p = [] := Mb.bytes_bad t u p (by rw [h]; exact hk)
  ⟨Option.none, 0, 0, by rw [h], by rw [hc]; rfl, by rw [hc]; exact World.ownsRow_nil _ _ _ _, hb⟩
theorem BytesPost.good (w w' : World) (t : UInt16) (u : UInt8) (p : List UInt8) (A : Option Addr) (n c : Nat) (h : Mb.codeP p = 0) (hn : p.length + 7 = n) (hy : w'.ownsRow w.heap.size 5 1 (.slice A n c) n ((Mb.head t u (p.length + 1) ++ p).map u8v)) (hb : Below w.heap.size w w') :
    BytesPost w t u p (.returned (.tuple #[.slice A n c, .int .i64 0])) w' :=
  have hc' := Mb.bytes_good t u p h
  ⟨A, n, c, by rw [h]; rfl, by rw [Mb.bytes_length h]; exact hn, by rw [hc']; exact hy, hb⟩

/-- What Read of layer 4 leaves. -/
def ReadPost (w : World) (b : List UInt8) (e : Ending) (w' : World) : Prop :=
  ∃ A n c, e = .returned (.tuple #[.agg #[u16v (Mb.tid b), u8v (Mb.unit b), .slice A n c], .int .i64 ((Mb.size b : Nat) : Int), .int .i64 ((Mb.codeB b : Nat) : Int)]) ∧ (Mb.pdu b).length = n ∧ n ≤ c ∧ c ≤ maxLen ∧ Lies u8v w' A (Mb.pdu b) ∧ Below w.heap.size w w' ∧ ∀ b o s, A = some ⟨b, o, s⟩ → 0 < n → w.heap.size ≤ b
theorem ReadPost.bad (w w' : World) (b : List UInt8) (k : Nat) (h : Mb.codeB b = k) (hk : k ≠ 0) (hb : Below w.heap.size w w') : ReadPost w b (.returned (.tuple #[.agg #[.int .u16 0, .int .u8 0, .slice Option.none 0 0], .int .i64 0, .int .i64 (k : Int)])) w' :=
  have hn : Mb.codeB b ≠ 0 := by rw [h]; exact hk
  have hc := Mb.pdu_bad b hn
  ⟨Option.none, 0, 0, by rw [h, Mb.tid_bad b hn, Mb.unit_bad b hn, Mb.size_bad b hn]; rfl, by rw [hc]; rfl, Nat.le_refl _, Nat.zero_le _, by rw [hc]; exact Lies.nil _ _, hb, by rintro _ _ _ h; cases h⟩
theorem ReadPost.good (w w' : World) (b : List UInt8) (t : UInt16) (x : UInt8) (A : Option Addr) (n c s : Nat) (h : Mb.codeB b = 0) (ht : UInt16.ofNat (256 * (b.getD 0 0).toNat + (b.getD 1 0).toNat) = t) (hx : b.getD 6 0 = x) (hs : 6 + Mb.follow b = s) (hn : Mb.follow b - 1 = n) (hc : n ≤ c) (hm : c ≤ maxLen) (hy : Lies u8v w' A ((b.drop 7).take (Mb.follow b - 1))) (hb : Below w.heap.size w w') (hf : ∀ b o s, A = some ⟨b, o, s⟩ → 0 < n → w.heap.size ≤ b) :
    ReadPost w b (.returned (.tuple #[.agg #[u16v t, u8v x, .slice A n c], .int .i64 (s : Int), .int .i64 0])) w' :=
  ⟨A, n, c, by rw [h, Mb.tid_good b h, Mb.unit_good b h, Mb.size_good b h, ht, hx, hs]; rfl, by rw [Mb.pdu_length h]; exact hn, hc, hm, by rw [Mb.pdu_good b h]; exact hy, hb, hf⟩
end Go.Proofs.Ytophchhienlafaa
