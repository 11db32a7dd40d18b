
/-
  Answers: text, Bytes of the document's layer 7, whole.
-/
import Derived.Test.YtcbkbdoaaaofjaaGreatTy
import Derived.Test.YtcbkbdoaaaofjaaGreatAr
import Derived.Test.YtcbkbdoaaaofjaaGreatBy7
namespace Go.Proofs.YtcbkbdoaaaofjaaGreat
open Go.RowKit

theorem rtext7_any (a : Ask) (x : Ans) (h k hx kx tx : Hd) (w : World) (ha : AskIn w a h k) (hi : AnsIn w x hx kx tx) (hx' : An.right a x = true) :
    Calls Tryz.prog 23 #[askV a h k, ansV x hx kx tx] w (AnTextPost w (An.text a x)) := by
  have hr := (An.right_parts hx').1
  have hs := An.shape hx'
  have hsh := Ak.shape (An.ak_right hr).1
  obtain ⟨hc0, hc1⟩ := An.code_lt (An.ak_right hr).1
  cases hs with
  | exc n h0 h1 =>
    have e : An.text a ⟨n, [], [], []⟩ = [An.b1 (128 + a.code.toNat), An.b1 n.toNat] := by unfold An.text; rw [if_pos (by dsimp only; omega)]
    rw [e]
    exact rtextE_any a h k n hx kx tx w hc0 hc1 h0 h1
  | bits l hc hl h1 =>
    have e : An.text a ⟨0, l, [], []⟩ = An.b1 a.code.toNat :: An.b1 (Word.pack l).length :: Word.pack l := by unfold An.text; rw [if_neg (by dsimp only; omega), if_pos hc]
    rw [e]
    obtain ⟨code, addr, count, to, words, bits, and_, or_⟩ := a
    rcases hc with hc | hc
    · obtain rfl : code = 1 := hc
      exact rtext7_1 addr count to words bits and_ or_ h k ⟨0, l, [], []⟩ hx kx tx w ha hi rfl h1
    · obtain rfl : code = 2 := hc
      exact rtext7_2 addr count to words bits and_ or_ h k ⟨0, l, [], []⟩ hx kx tx w ha hi rfl h1
  | words l hc hl h1 =>
    have e : An.text a ⟨0, [], l, []⟩ = An.b1 a.code.toNat :: An.b1 (Word.bytes l).length :: Word.bytes l := by unfold An.text; rw [if_neg (by dsimp only; omega), if_neg (by omega), if_pos hc]
    rw [e]
    obtain ⟨code, addr, count, to, words, bits, and_, or_⟩ := a
    rcases hc with hc | hc | hc
    · obtain rfl : code = 3 := hc
      exact rtext7_3 addr count to words bits and_ or_ h k ⟨0, [], l, []⟩ hx kx tx w ha hi rfl h1
    · obtain rfl : code = 4 := hc
      exact rtext7_4 addr count to words bits and_ or_ h k ⟨0, [], l, []⟩ hx kx tx w ha hi rfl h1
    · obtain rfl : code = 23 := hc
      exact rtext7_23 addr count to words bits and_ or_ h k ⟨0, [], l, []⟩ hx kx tx w ha hi rfl h1
  | back hc =>
    have hl5 : 5 ≤ (Ak.bytes a).length := by rw [(An.ak_right hr).2]; exact An.text_back_len hr hc
    have e1 : (a.code = 5 ∨ a.code = 6 ∨ a.code = 22) → An.text a ⟨0, [], [], []⟩ = Ak.bytes a := fun h => by unfold An.text; rw [if_neg (by dsimp only; omega), if_neg (by omega), if_neg (by omega), if_pos h]
    have e2 : (a.code = 15 ∨ a.code = 16) → An.text a ⟨0, [], [], []⟩ = (Ak.bytes a).take 5 := fun h => by unfold An.text; rw [if_neg (by dsimp only; omega), if_neg (by omega), if_neg (by omega), if_neg (by omega), if_pos h]
    obtain ⟨code, addr, count, to, words, bits, and_, or_⟩ := a
    rcases hc with hc | hc | hc | hc | hc
    · obtain rfl : code = 5 := hc
      rw [e1 (by simp)]
      exact rtext7_5 addr count to words bits and_ or_ h k ⟨0, [], [], []⟩ hx kx tx w ha hi rfl
    · obtain rfl : code = 6 := hc
      rw [e1 (by simp)]
      exact rtext7_6 addr count to words bits and_ or_ h k ⟨0, [], [], []⟩ hx kx tx w ha hi rfl
    · obtain rfl : code = 22 := hc
      rw [e1 (by simp)]
      exact rtext7_22 addr count to words bits and_ or_ h k ⟨0, [], [], []⟩ hx kx tx w ha hi rfl
    · obtain rfl : code = 15 := hc
      rw [e2 (by simp)]
      exact rtext7_15 addr count to words bits and_ or_ h k ⟨0, [], [], []⟩ hx kx tx w ha hi rfl hl5
    · obtain rfl : code = 16 := hc
      rw [e2 (by simp)]
      exact rtext7_16 addr count to words bits and_ or_ h k ⟨0, [], [], []⟩ hx kx tx w ha hi rfl hl5
  | texts l hc h1 hsz h2 h3 =>
    have e : An.text a ⟨0, [], [], l⟩ = [43, 14, An.b1 a.count.toNat, 1, 0, 0, An.b1 l.length] ++ An.laid a.addr.toNat l := by unfold An.text; rw [if_neg (by dsimp only; omega), if_neg (by omega), if_neg (by omega), if_neg (by omega), if_neg (by omega)]
    rw [e]
    cases hsh with
    | ident addr n g0 g1 n0 n1 =>
      obtain ⟨an, rfl⟩ := Int.eq_ofNat_of_zero_le g0
      obtain ⟨cn, rfl⟩ := Int.eq_ofNat_of_zero_le (show 0 ≤ n by omega)
      exact rtext7_43 an cn 0 [] [] 0 0 h k ⟨0, [], [], l⟩ hx kx tx w ha hi rfl (by omega) h2 hsz (by dsimp only at h3 ⊢; omega)
    | count c addr n hc' g0 g1 n0 n1 => dsimp only at hc; omega
    | _ => dsimp only at hc; omega

set_option maxRecDepth 100000 in
set_option maxHeartbeats 1000000 in
theorem rbytes7_any (a : Ask) (x : Ans) (h k hx kx tx : Hd) (w : World) (ha : AskIn w a h k) (hi : AnsIn w x hx kx tx) :
    Calls Tryz.prog 10 #[askV a h k, ansV x hx kx tx] w (AnBytesPost w a x) := by
  obtain ⟨code, addr, count, to, words, bits, and_, or_⟩ := a
  obtain ⟨exc, xb, xw, xt⟩ := x
  have hra := old_at7 (row_at w #[.int .i64 code, .int .i64 addr, .int .i64 count, .int .i64 to, .slice h.1 h.2.1 h.2.2, .slice k.1 k.2.1 k.2.2, u16v and_, u16v or_] 35 w.heap.size rfl) (.cells #[.int .i64 exc, .slice hx.1 hx.2.1 hx.2.2, .slice kx.1 kx.2.1 kx.2.2, .slice tx.1 tx.2.1 tx.2.2] 33)
  have hrx := row_at (w.alloc (.cells #[.int .i64 code, .int .i64 addr, .int .i64 count, .int .i64 to, .slice h.1 h.2.1 h.2.2, .slice k.1 k.2.1 k.2.2, u16v and_, u16v or_] 35)) #[.int .i64 exc, .slice hx.1 hx.2.1 hx.2.2, .slice kx.1 kx.2.1 kx.2.2, .slice tx.1 tx.2.1 tx.2.2] 33 (w.heap.size + 1) (by simp)
  have hb0 : Below w.heap.size w ((w.alloc (.cells #[.int .i64 code, .int .i64 addr, .int .i64 count, .int .i64 to, .slice h.1 h.2.1 h.2.2, .slice k.1 k.2.1 k.2.2, u16v and_, u16v or_] 35)).alloc (.cells #[.int .i64 exc, .slice hx.1 hx.2.1 hx.2.2, .slice kx.1 kx.2.1 kx.2.2, .slice tx.1 tx.2.1 tx.2.2] 33)) := ((Below.refl _ _).alloc (Nat.le_refl _) _).alloc (by simp) _
  have hlt1 : w.heap.size + 1 < ((w.alloc (.cells #[.int .i64 code, .int .i64 addr, .int .i64 count, .int .i64 to, .slice h.1 h.2.1 h.2.2, .slice k.1 k.2.1 k.2.2, u16v and_, u16v or_] 35)).alloc (.cells #[.int .i64 exc, .slice hx.1 hx.2.1 hx.2.2, .slice kx.1 kx.2.1 kx.2.2, .slice tx.1 tx.2.1 tx.2.2] 33)).heap.size := row_lt hrx
  have hlt0 : w.heap.size < ((w.alloc (.cells #[.int .i64 code, .int .i64 addr, .int .i64 count, .int .i64 to, .slice h.1 h.2.1 h.2.2, .slice k.1 k.2.1 k.2.2, u16v and_, u16v or_] 35)).alloc (.cells #[.int .i64 exc, .slice hx.1 hx.2.1 hx.2.2, .slice kx.1 kx.2.1 kx.2.2, .slice tx.1 tx.2.1 tx.2.2] 33)).heap.size := row_lt hra
  have HR := Lib.hid (rright_any _ h k _ (ha.below hb0))
  have HC := Lib.hid (fun W hW => rright7_any ⟨code, addr, count, to, words, bits, and_, or_⟩ h k ⟨exc, xb, xw, xt⟩ hx kx tx W ((ha.below hb0).below hW) ((hi.below hb0).below hW))
  have HL := Lib.hid (fun W hW hr => rtext7_any ⟨code, addr, count, to, words, bits, and_, or_⟩ ⟨exc, xb, xw, xt⟩ h k hx kx tx W ((ha.below hb0).below hW) ((hi.below hb0).below hW) hr)
  rw [askV_eq] at HR
  rw [askV_eq, ansV_eq] at HC HL
  rw [askV_eq, ansV_eq]
  clear ha hi
  go_enter Tryz.func10, Tryz.ntmps10
  cases hk : Ak.right ⟨code, addr, count, to, words, bits, and_, or_⟩ with
  | false =>
    have HP : Hid (An.bytes ⟨code, addr, count, to, words, bits, and_, or_⟩ ⟨exc, xb, xw, xt⟩ = [] ∧ An.codeA ⟨code, addr, count, to, words, bits, and_, or_⟩ ⟨exc, xb, xw, xt⟩ = 1) := Lib.hid (by unfold An.bytes An.codeA An.right; rw [hk]; exact ⟨rfl, rfl⟩)
    rw [hk] at HR
    clear hk HC HL
    obtain ⟨r0, r1, r2, r3, r4, r5, r6, r7⟩ := row_eight hra
    go_wp2_with fail
    refine HR.out.mono ?_
    rintro e w2 ⟨rfl, hb2⟩
    go_wp2_with fail
    go_ret2
    exact ⟨none, 0, 0, by rw [HP.out.2]; rfl, by rw [HP.out.1]; rfl, Nat.le_refl _, Nat.zero_le _, by rw [HP.out.1]; exact Lies.nil _ _, hb0.trans (hb2.mono hb0.size)⟩
  | true =>
    have HC2 := HC
    rw [hk] at HR
    clear HC
    cases hv : An.right ⟨code, addr, count, to, words, bits, and_, or_⟩ ⟨exc, xb, xw, xt⟩ with
    | false =>
      have HP : Hid (An.bytes ⟨code, addr, count, to, words, bits, and_, or_⟩ ⟨exc, xb, xw, xt⟩ = [] ∧ An.codeA ⟨code, addr, count, to, words, bits, and_, or_⟩ ⟨exc, xb, xw, xt⟩ = 2) := Lib.hid (by unfold An.bytes An.codeA; rw [hk, hv]; exact ⟨rfl, rfl⟩)
      rw [hv] at HC2
      clear hk hv HL
      obtain ⟨r0, r1, r2, r3, r4, r5, r6, r7⟩ := row_eight hra
      go_wp2_with fail
      refine HR.out.mono ?_
      rintro e w2 ⟨rfl, hb2⟩
      have hlt2 : w.heap.size < w2.heap.size := row_lt (row_later hra hb2)
      have hlt3 : w.heap.size + 1 < w2.heap.size := row_lt (row_later hrx hb2)
      obtain ⟨r0, r1, r2, r3, r4, r5, r6, r7⟩ := row_eight (row_later hra hb2)
      obtain ⟨x0, x1, x2, x3⟩ := row_quad (row_later hrx hb2)
      go_wp2_with fail
      refine (HC2.out _ hb2).mono ?_
      rintro e w3 ⟨rfl, hb3⟩
      go_wp2_with fail
      go_ret2
      exact ⟨none, 0, 0, by rw [HP.out.2]; rfl, by rw [HP.out.1]; rfl, Nat.le_refl _, Nat.zero_le _, by rw [HP.out.1]; exact Lies.nil _ _, (hb0.trans (hb2.mono hb0.size)).trans (hb3.mono (hb0.trans (hb2.mono hb0.size)).size)⟩
    | true =>
      have HP : Hid (An.bytes ⟨code, addr, count, to, words, bits, and_, or_⟩ ⟨exc, xb, xw, xt⟩ = An.text ⟨code, addr, count, to, words, bits, and_, or_⟩ ⟨exc, xb, xw, xt⟩ ∧ An.codeA ⟨code, addr, count, to, words, bits, and_, or_⟩ ⟨exc, xb, xw, xt⟩ = 0) := Lib.hid (by unfold An.bytes An.codeA; rw [hk, hv]; exact ⟨rfl, rfl⟩)
      have HL2 := Lib.hid (fun W hW => HL.out W hW hv)
      rw [hv] at HC2
      clear hk hv HL
      obtain ⟨r0, r1, r2, r3, r4, r5, r6, r7⟩ := row_eight hra
      go_wp2_with fail
      refine HR.out.mono ?_
      rintro e w2 ⟨rfl, hb2⟩
      have hlt2 : w.heap.size < w2.heap.size := row_lt (row_later hra hb2)
      have hlt3 : w.heap.size + 1 < w2.heap.size := row_lt (row_later hrx hb2)
      obtain ⟨r0, r1, r2, r3, r4, r5, r6, r7⟩ := row_eight (row_later hra hb2)
      obtain ⟨x0, x1, x2, x3⟩ := row_quad (row_later hrx hb2)
      go_wp2_with fail
      refine (HC2.out _ hb2).mono ?_
      rintro e w3 ⟨rfl, hb3⟩
      have hb23 := hb2.trans (hb3.mono hb2.size)
      have hlt2 : w.heap.size < w3.heap.size := row_lt (row_later hra hb23)
      have hlt3 : w.heap.size + 1 < w3.heap.size := row_lt (row_later hrx hb23)
      obtain ⟨r0, r1, r2, r3, r4, r5, r6, r7⟩ := row_eight (row_later hra hb23)
      obtain ⟨x0, x1, x2, x3⟩ := row_quad (row_later hrx hb23)
      go_wp2_with fail
      refine (HL2.out _ hb23).mono ?_
      rintro e w4 ⟨A4, n4, c4, rfl, g1, g2, g3, g4, hb4⟩
      have hbw3 := hb0.trans (hb23.mono hb0.size)
      have HE : Hid (AnBytesPost w ⟨code, addr, count, to, words, bits, and_, or_⟩ ⟨exc, xb, xw, xt⟩ (.returned (.tuple #[.slice A4 n4 c4, .int .i64 0])) w4) := Lib.hid ⟨A4, n4, c4, by rw [HP.out.2]; rfl, by rw [HP.out.1]; exact g1, g2, g3, by rw [HP.out.1]; exact g4, hbw3.trans (hb4.mono hbw3.size)⟩
      clear g1 g2 g3 g4
      go_wp2_with fail
      go_ret2
      exact HE.out
#print axioms rbytes7_any
end Go.Proofs.YtcbkbdoaaaofjaaGreat
