/-
  Bytes with their sum behind them: crc.Put and the document's.
-/
import Derived.Test.YtlabjopmimnifaaMore
import Derived.Deep.DeepMust
namespace Go.Proofs.Ytlabjopmimnifaa
open Go.RowKit

namespace Crc
/-- Bytes, and the two bytes of their sum, the lower one first. -/
def tail (s : Nat) : List UInt8 := [UInt8.ofNat (s % 256), UInt8.ofNat (s / 256)]
def put (l : List UInt8) : List UInt8 := l ++ tail (more 65535 l)
theorem put_length (l : List UInt8) : (put l).length = l.length + 2 := by simp [put, tail]
end Crc
theorem tail_map (s : Nat) (h : s < 65536) : (Crc.tail s).map u8v = [.int .u8 ((s % 256 : Nat) : Int), .int .u8 ((s / 256 : Nat) : Int)] := by
  have e2 : s / 256 % 256 = s / 256 := Nat.mod_eq_of_lt (by omega)
  simp [Crc.tail, u8v, e2]

theorem kit8 : EK Try.prog 22 5 (.int .u8 0) 1 := ⟨Try.underlying22, by kernel_rfl, rfl⟩
theorem one8 : ∀ x : UInt8, (u8v x).oneCell' = true := fun _ => rfl

set_option maxRecDepth 100000 in
set_option maxHeartbeats 400000 in
theorem put_own (A : Option Addr) (n c : Nat) (l : List UInt8) (hn : l.length = n) (hm : n ≤ 65536) (w : World) (hb : Lies u8v w A l) :
    Calls Try.prog 16 #[.slice A n c] w fun e w' => ∃ A' c', e = .returned (.slice A' (n + 2) c') ∧ w'.ownsRow w.heap.size 5 1 (.slice A' (n + 2) c') (n + 2) ((Crc.put l).map u8v) ∧ Below w.heap.size w w' := by
  have hs := Crc.more_lt l (show 65535 < 65536 by omega)
  have HP : Hid (Crc.put l = l ++ Crc.tail (Crc.more 65535 l)) := Lib.hid rfl
  obtain ⟨i0, hi0, hz0, hz1, hz2⟩ := info_parts kit8.hi
  have HN := Lib.hid hn
  clear hn
  go_enter Try.func16, Try.ntmps16
  go_wp2_with (first
    | (go_at_call 23; refine (sum_any A n c l HN.out (by unfold maxLen; omega) _ hb).mono ?_; rintro e w' ⟨rfl, rfl⟩; generalize Crc.more 65535 l = m at hs HP)
    | (at_make; go_must (refine wpList_make_own _ rfl _ _ 22 rfl w.heap.size 5 i0 (.int .u8 0) 1 kit8.ht hi0 hz0 hz1 .i64 .i64 _ (n + 2) rfl rfl (by omega) (by rw [hz2]; omega) (by unfold maxLen; omega) (Nat.le_refl _) ?_); intro w1 hown1 hg1; have hb1 : Below w.heap.size w w1 := (Below.refl _ _).grown hg1 (Nat.le_refl _) (by simp))
    | (at_builtin; refine wpList_append_lies kit8 one8 _ rfl (.tmp 11) (.tmp 12) rfl w.heap.size _ 0 [] rfl hown1 A n c l rfl HN.out (hb.below hb1 (Nat.le_refl _)) (by omega) (by unfold maxLen; omega) hb1.size ?_; intro A2 c2 w2 hown2 _ hb2; simp only [Nat.zero_add, List.nil_append] at hown2; have hbb2 := hb1.trans hb2; have hz := hbb2.size; have HBV := Lib.hid (tail_map m hs))
    | (at_builtin; go_must (refine wpList_append_lies kit8 one8 _ rfl (.tmp 14) (.tmp 20) rfl w.heap.size _ n l rfl (hown2.alloc _) (some ⟨w2.heap.size, 0, none⟩) 2 2 (Crc.tail m) rfl rfl (lies_new (f := u8v) _ _ _ _ (by rw [HBV.out]; rfl)) (by omega) (by unfold maxLen; omega) (by simp; omega) ?_; intro A3 c3 w3 hown3 _ hb3)))
  go_ret
  exact ⟨A3, c3, rfl, by rw [HP.out]; exact hown3, hbb2.trans (((Below.refl _ _).alloc hz _).trans hb3)⟩
theorem put_any (A : Option Addr) (n c : Nat) (l : List UInt8) (hn : l.length = n) (hm : n ≤ 65536) (w : World) (hb : Lies u8v w A l) :
    Calls Try.prog 16 #[.slice A n c] w fun e w' => ∃ A' c', e = .returned (.slice A' (n + 2) c') ∧ n + 2 ≤ c' ∧ c' ≤ maxLen ∧ Lies u8v w' A' (Crc.put l) ∧ Below w.heap.size w w' := by
  refine (put_own A n c l hn hm w hb).mono ?_
  rintro e w' ⟨A', c', rfl, hown, hbe⟩
  obtain ⟨h5, h6, _, h7⟩ := own_at hown
  exact ⟨A', c', rfl, h5, h6, h7, hbe⟩

set_option maxRecDepth 100000 in
set_option maxHeartbeats 400000 in
theorem rput_own (A : Option Addr) (n c : Nat) (l : List UInt8) (hn : l.length = n) (hm : n ≤ 65536) (w : World) (hb : Lies u8v w A l) :
    Calls Try.prog 18 #[.slice A n c] w fun e w' => ∃ A' c', e = .returned (.slice A' (n + 2) c') ∧ w'.ownsRow w.heap.size 5 1 (.slice A' (n + 2) c') (n + 2) ((Crc.put l).map u8v) ∧ Below w.heap.size w w' := by
  have hs := Crc.more_lt l (show 65535 < 65536 by omega)
  have HP : Hid (Crc.put l = l ++ Crc.tail (Crc.more 65535 l)) := Lib.hid rfl
  have HN := Lib.hid hn
  clear hn
  go_enter Try.func18, Try.ntmps18
  go_wp2_with (first
    | (go_at_call 24; refine (rsum_any A n c l HN.out (by unfold maxLen; omega) _ hb).mono ?_; rintro e w' ⟨rfl, q, rfl⟩; generalize Crc.more 65535 l = m at hs HP)
    | (at_builtin; refine wpList_append_lies kit8 one8 _ rfl (.tmp 6) (.tmp 7) rfl w.heap.size _ 0 [] rfl (World.ownsRow_lit _ #[] 0 (Nat.le_refl _) (by unfold maxLen; omega) rfl) A n c l rfl HN.out ((hb.drewN q).alloc _) (by omega) (by unfold maxLen; omega) (by simp) ?_; intro A2 c2 w2 hown2 _ hb2; simp only [Nat.zero_add, List.nil_append] at hown2; have hbb2 := (drewN_below ((Below.refl w.heap.size w).alloc (Nat.le_refl _) _) q).trans hb2; have hz := hbb2.size; have HBV := Lib.hid (tail_map m hs))
    | (at_builtin; go_must (refine wpList_append_lies kit8 one8 _ rfl (.tmp 8) (.tmp 15) rfl w.heap.size _ n l rfl (hown2.alloc _) (some ⟨w2.heap.size, 0, none⟩) 2 2 (Crc.tail m) rfl rfl (lies_new (f := u8v) _ _ _ _ (by rw [HBV.out]; rfl)) (by omega) (by unfold maxLen; omega) (by simp; omega) ?_; intro A3 c3 w3 hown3 _ hb3)))
  go_ret
  exact ⟨A3, c3, rfl, by rw [HP.out]; exact hown3, hbb2.trans (((Below.refl _ _).alloc hz _).trans hb3)⟩
theorem rput_any (A : Option Addr) (n c : Nat) (l : List UInt8) (hn : l.length = n) (hm : n ≤ 65536) (w : World) (hb : Lies u8v w A l) :
    Calls Try.prog 18 #[.slice A n c] w fun e w' => ∃ A' c', e = .returned (.slice A' (n + 2) c') ∧ n + 2 ≤ c' ∧ c' ≤ maxLen ∧ Lies u8v w' A' (Crc.put l) ∧ Below w.heap.size w w' := by
  refine (rput_own A n c l hn hm w hb).mono ?_
  rintro e w' ⟨A', c', rfl, hown, hbe⟩
  obtain ⟨h5, h6, _, h7⟩ := own_at hown
  exact ⟨A', c', rfl, h5, h6, h7, hbe⟩

end Go.Proofs.Ytlabjopmimnifaa
