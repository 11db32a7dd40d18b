/-
  Bytes without their sum: crc.Cut and the document's.
-/
import Derived.Test.YtlabjopmimnifaaSame
namespace Go.Proofs.Ytlabjopmimnifaa
open Go.RowKit

namespace Crc
/-- All but the last two, where the last two are their sum. -/
def front (l : List UInt8) : List UInt8 := l.take (l.length - 2)
def isPut (l : List UInt8) : Bool := decide (2 ≤ l.length) && (put (front l) == l)
def cut (l : List UInt8) : List UInt8 := if isPut l then front l else []
theorem front_length (l : List UInt8) : (front l).length = l.length - 2 := by
  unfold front; rw [List.length_take]; omega
theorem isPut_short (l : List UInt8) (h : l.length < 2) : isPut l = false := by
  unfold isPut; rw [decide_eq_false (by omega)]; rfl
theorem isPut_long (l : List UInt8) (h : 2 ≤ l.length) : isPut l = (put (front l) == l) := by
  unfold isPut; rw [decide_eq_true h]; rfl
end Crc

/-- What Cut leaves. -/
def CutPost (w : World) (l : List UInt8) (e : Ending) (w' : World) : Prop :=
  ∃ A' n' c', e = .returned (.tuple #[.slice A' n' c', .bool (Crc.isPut l)]) ∧ (Crc.cut l).length = n' ∧ n' ≤ c' ∧ c' ≤ maxLen ∧ Lies u8v w' A' (Crc.cut l) ∧ Below w.heap.size w w'
theorem CutPost.none (w w' : World) (l : List UInt8) (h : Crc.isPut l = false) (hb : Below w.heap.size w w') : CutPost w l (.returned (.tuple #[.slice Option.none 0 0, .bool false])) w' :=
  have hc : Crc.cut l = [] := by unfold Crc.cut; rw [h]; rfl
  ⟨Option.none, 0, 0, by rw [h], by rw [hc]; rfl, Nat.le_refl _, Nat.zero_le _, by rw [hc]; exact Lies.nil _ _, hb⟩
theorem CutPost.some (w w' : World) (l : List UInt8) (A : Option Addr) (n c : Nat) (h : Crc.isPut l = true) (hn : l.length - 2 = n) (hc : n ≤ c) (hm : c ≤ maxLen) (hy : Lies u8v w' A (Crc.front l)) (hb : Below w.heap.size w w') :
    CutPost w l (.returned (.tuple #[.slice A n c, .bool true])) w' :=
  have hc' : Crc.cut l = Crc.front l := by unfold Crc.cut; rw [h]; rfl
  ⟨A, n, c, by rw [h], by rw [hc', Crc.front_length]; exact hn, hc, hm, by rw [hc']; exact hy, hb⟩

theorem front_put (l : List UInt8) (h : Crc.put (Crc.front l) = l) : Crc.front l = (Crc.put (Crc.front l)).take (l.length - 2) := by rw [h]; rfl

set_option maxRecDepth 100000 in
set_option maxHeartbeats 400000 in
theorem cut_any (A : Option Addr) (n c : Nat) (l : List UInt8) (hn : l.length = n) (hnc : n ≤ c) (hm : n ≤ 65536) (w : World) (hb : Lies u8v w A l) :
    Calls Try.prog 25 #[.slice A n c] w (CutPost w l) := by
  by_cases h2 : n < 2
  · have HI := Lib.hid (Crc.isPut_short l (by omega))
    clear hn
    go_enter Try.func25, Try.ntmps25
    go_wp2
    go_ret2
    exact CutPost.none _ _ _ HI.out (Below.refl _ _)
  · have HI := Lib.hid (Crc.isPut_long l (by omega))
    obtain ⟨m, rfl⟩ : ∃ m, n = m + 2 := ⟨n - 2, by omega⟩
    have HF := Lib.hid ((Crc.front_length l).trans (show l.length - 2 = m by omega))
    have HN := Lib.hid hn
    have hbf : Lies u8v w A (Crc.front l) := hb.take _
    clear hn
    go_enter Try.func25, Try.ntmps25
    by_cases hq : (Crc.put (Crc.front l) == l) = true
    · have HQ := Lib.hid hq
      rw [hq] at HI
      clear hq
      go_wp2_with (first
        | (go_at_call 16; go_must (refine (put_any A m c (Crc.front l) HF.out (by omega) _ hbf).mono ?_; rintro e w1 ⟨A1, c1, rfl, hc1, hc2, hb1, hbe1⟩); have hc3 := hc2; unfold maxLen at hc3)
        | (go_at_call 21; go_must (refine (equal_any A1 A (m + 2) (m + 2) c1 c (Crc.put (Crc.front l)) l (by rw [Crc.put_length, HF.out]) HN.out _ hb1 (hb.below hbe1 (Nat.le_refl _))).mono ?_; rintro e w2 ⟨rfl, rfl⟩; rw [HQ.out])))
      go_ret2
      have hp : Crc.put (Crc.front l) = l := beq_iff_eq.1 HQ.out
      have hl : l.length = m + 2 := HN.out
      refine CutPost.some w _ l A1 m m HI.out (by omega) (Nat.le_refl _) (by unfold maxLen; omega) ?_ hbe1
      have := hb1.take (l.length - 2)
      rwa [← front_put l hp] at this
    · have hq : (Crc.put (Crc.front l) == l) = false := by simpa using hq
      have HQ := Lib.hid hq
      rw [hq] at HI
      clear hq
      go_wp2_with (first
        | (go_at_call 16; go_must (refine (put_any A m c (Crc.front l) HF.out (by omega) _ hbf).mono ?_; rintro e w1 ⟨A1, c1, rfl, hc1, hc2, hb1, hbe1⟩); have hc3 := hc2; unfold maxLen at hc3)
        | (go_at_call 21; go_must (refine (equal_any A1 A (m + 2) (m + 2) c1 c (Crc.put (Crc.front l)) l (by rw [Crc.put_length, HF.out]) HN.out _ hb1 (hb.below hbe1 (Nat.le_refl _))).mono ?_; rintro e w2 ⟨rfl, rfl⟩; rw [HQ.out])))
      go_ret2
      exact CutPost.none _ _ _ HI.out hbe1

set_option maxRecDepth 100000 in
set_option maxHeartbeats 400000 in
theorem rcut_any (A : Option Addr) (n c : Nat) (l : List UInt8) (hn : l.length = n) (hnc : n ≤ c) (hm : n ≤ 65536) (w : World) (hb : Lies u8v w A l) :
    Calls Try.prog 20 #[.slice A n c] w (CutPost w l) := by
  by_cases h2 : n < 2
  · have HI := Lib.hid (Crc.isPut_short l (by omega))
    clear hn
    go_enter Try.func20, Try.ntmps20
    go_wp2
    go_ret2
    exact CutPost.none _ _ _ HI.out (Below.refl _ _)
  · have HI := Lib.hid (Crc.isPut_long l (by omega))
    obtain ⟨m, rfl⟩ : ∃ m, n = m + 2 := ⟨n - 2, by omega⟩
    have HF := Lib.hid ((Crc.front_length l).trans (show l.length - 2 = m by omega))
    have HN := Lib.hid hn
    have hbf : Lies u8v w A (Crc.front l) := hb.take _
    clear hn
    go_enter Try.func20, Try.ntmps20
    by_cases hq : (Crc.put (Crc.front l) == l) = true
    · have HQ := Lib.hid hq
      rw [hq] at HI
      clear hq
      go_wp2_with (first
        | (go_at_call 18; go_must (refine (rput_any A m c (Crc.front l) HF.out (by omega) _ hbf).mono ?_; rintro e w1 ⟨A1, c1, rfl, hc1, hc2, hb1, hbe1⟩); have hc3 := hc2; unfold maxLen at hc3)
        | (go_at_call 11; go_must (refine (rsame8_any A1 A (m + 2) (m + 2) c1 c (Crc.put (Crc.front l)) l (by rw [Crc.put_length, HF.out]) HN.out (by unfold maxLen; omega) _ hb1 (hb.below hbe1 (Nat.le_refl _))).mono ?_; rintro e w2 ⟨rfl, q, rfl⟩; rw [HQ.out])); have hz := hbe1.size
        | (at_builtin; go_must (refine wpList_append_lies kit8 one8 _ rfl (.tmp 18) (.tmp 19) rfl w.heap.size _ 0 [] rfl (World.ownsRow_lit _ #[] 0 (by simp; omega) (by unfold maxLen; omega) rfl) A m c (Crc.front l) rfl HF.out (((hbf.below hbe1 (Nat.le_refl _)).drewN q).alloc _) (by omega) (by unfold maxLen; omega) (by simp; omega) ?_; intro A2 c2 w2 hown2 _ hb2; simp only [Nat.zero_add, List.nil_append] at hown2)))
      go_ret2
      have hl : l.length = m + 2 := HN.out
      obtain ⟨h5, h6, _, h7⟩ := own_at hown2
      exact CutPost.some w _ l A2 m c2 HI.out (by omega) h5 h6 h7 ((drewN_below (hbe1.alloc hbe1.size _) q).trans hb2)
    · have hq : (Crc.put (Crc.front l) == l) = false := by simpa using hq
      have HQ := Lib.hid hq
      rw [hq] at HI
      clear hq
      go_wp2_with (first
        | (go_at_call 18; go_must (refine (rput_any A m c (Crc.front l) HF.out (by omega) _ hbf).mono ?_; rintro e w1 ⟨A1, c1, rfl, hc1, hc2, hb1, hbe1⟩); have hc3 := hc2; unfold maxLen at hc3)
        | (go_at_call 11; go_must (refine (rsame8_any A1 A (m + 2) (m + 2) c1 c (Crc.put (Crc.front l)) l (by rw [Crc.put_length, HF.out]) HN.out (by unfold maxLen; omega) _ hb1 (hb.below hbe1 (Nat.le_refl _))).mono ?_; rintro e w2 ⟨rfl, q, rfl⟩; rw [HQ.out])))
      go_ret2
      exact CutPost.none _ _ _ HI.out (drewN_below hbe1 q)
end Go.Proofs.Ytlabjopmimnifaa
