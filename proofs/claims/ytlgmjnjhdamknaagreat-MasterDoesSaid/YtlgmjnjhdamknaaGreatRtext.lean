
/- A part of the proof of the law MasterDoes. -/
import Derived.Test.YtlgmjnjhdamknaaGreatMem
import Derived.Test.YtlgmjnjhdamknaaGreatRow
import Derived.Test.YtlgmjnjhdamknaaGreatR2
import Derived.Deep.RegionHeld3
import Derived.Deep.DrawnRows
namespace Go.Proofs.YtlgmjnjhdamknaaGreat
open Go.RowKit

attribute [local go_sem ↓] Go.wp_at_zero Go.wp_at_succ

namespace Ak
def b1 (n : Nat) : UInt8 := UInt8.ofNat n
def head (a : Ask) : List UInt8 := b1 a.code.toNat :: two a.addr
def text (a : Ask) : List UInt8 :=
  if a.code = 1 ∨ a.code = 2 ∨ a.code = 3 ∨ a.code = 4 then head a ++ two a.count
  else if a.code = 5 then head a ++ (if a.bits.getD 0 false then [255, 0] else [0, 0])
  else if a.code = 6 then head a ++ Word.bytes a.words
  else if a.code = 15 then head a ++ two a.bits.length ++ [b1 (Word.pack a.bits).length] ++ Word.pack a.bits
  else if a.code = 16 then head a ++ two a.words.length ++ [b1 (Word.bytes a.words).length] ++ Word.bytes a.words
  else if a.code = 22 then head a ++ two a.and_.toNat ++ two a.or_.toNat
  else if a.code = 23 then head a ++ two a.count ++ two a.to ++ two a.words.length ++ [b1 (Word.bytes a.words).length] ++ Word.bytes a.words
  else [43, 14, b1 a.count.toNat, b1 a.addr.toNat]
end Ak
theorem b1_map (n : Nat) (h : n < 256) : [Value.int .u8 (n : Int)] = [Ak.b1 n].map u8v := by
  simp only [List.map_cons, List.map_nil, Ak.b1, u8v, UInt8.toNat_ofNat']
  rw [Nat.mod_eq_of_lt (show n < 2 ^ 8 by omega)]
theorem own_lt {w : World} {B e n c : Nat} {A : Option Addr} {xs : List Value} (h : w.ownsRow B e 1 (.slice A n c) n xs) : ∀ b o s, A = some ⟨b, o, s⟩ → b < w.heap.size := by
  intro b o s e
  subst e
  exact (h.lt b rfl).2

theorem rtwo_own (n : Int) (h0 : 0 ≤ n) (h1 : n < 65536) (w : World) : Calls Tryz.prog 101 #[.int .i64 n] w fun e w' => e = .returned (.slice (some ⟨w.heap.size, 0, none⟩) 2 2) ∧ w'.ownsRow w.heap.size 5 1 (.slice (some ⟨w.heap.size, 0, none⟩) 2 2) 2 ((Ak.two n).map u8v) ∧ Below w.heap.size w w' := by
  obtain ⟨m, rfl⟩ := Int.eq_ofNat_of_zero_le h0
  have hm : m < 65536 := by omega
  have H := qh (Ak.two_map m hm)
  go_enter Tryz.func101, Tryz.ntmps101
  go_wp2
  go_ret
  refine ⟨rfl, ?_, (Below.refl _ w).alloc (zq _) _⟩
  exact own_lit u8v w _ _ _ _ 2 _ (by rw [H.out]; rfl) rfl (zq _) rfl (by unfold maxLen; omega)
def TextPost (w : World) (a : Ask) (e : Ending) (w' : World) : Prop :=
  ∃ A n c, e = .returned (.slice A n c) ∧ (Ak.text a).length = n ∧ w'.ownsRow w.heap.size 5 1 (.slice A n c) n ((Ak.text a).map u8v) ∧ Below w.heap.size w w'
theorem TextPost.mk (w W0 w' : World) (a : Ask) (A : Option Addr) (n c : Nat) (l : List UInt8) (hbw : Below w.heap.size w W0) (ht : Ak.text a = l) (hn : l.length = n) (hown : w'.ownsRow W0.heap.size 5 1 (.slice A n c) n (l.map u8v)) (hb : Below W0.heap.size W0 w') : TextPost w a (.returned (.slice A n c)) w' := by
  subst ht
  exact ⟨A, n, c, rfl, hn, own_lower hown hbw.size, hbw.trans (hb.mono hbw.size)⟩
set_option maxRecDepth 100000 in
set_option maxHeartbeats 4000000 in
theorem rtext_any (a : Ask) (h k : Option Addr × Nat × Nat) (w : World) (ha : AskIn w a h k) (hf : Ak.formed a = true) :
    Calls Tryz.prog 57 #[askV a h k] w (TextPost w a) := by
  obtain ⟨b0, b1, b2, b3, b4, b5, b6, b7, b8⟩ := Ak.bounds hf
  obtain ⟨code, addr, count, to, words, bits, and_, or_⟩ := a
  obtain ⟨hA, hn, hc⟩ := h
  obtain ⟨kA, kn, kc⟩ := k
  dsimp only at b0 b1 b2 b3 b4 b5 b6 b7 b8
  have hmx : Tryz.prog.follows .mixedOrders = true := by kernel_rfl
  have hcode : 0 ≤ code ∧ code < 256 := by
    simp only [Ak.codes, List.mem_cons, List.not_mem_nil, or_false] at b0
    omega
  have hwc : IntKind.u8.wrap code = code := by rw [IntKind.wrap_u8]; omega
  obtain ⟨W0, hW0⟩ : ∃ W0, w.alloc (.cells #[.int .i64 code, .int .i64 addr, .int .i64 count, .int .i64 to, .slice hA hn hc, .slice kA kn kc, u16v and_, u16v or_] 58) = W0 := ⟨_, rfl⟩
  have hrow : W0.heap[w.heap.size]? = some (.cells #[.int .i64 code, .int .i64 addr, .int .i64 count, .int .i64 to, .slice hA hn hc, .slice kA kn kc, u16v and_, u16v or_] 58 (0, 0)) := by rw [← hW0]; exact heap_alloc_new w _
  have hbw : Below w.heap.size w W0 := by rw [← hW0]; exact (Below.refl _ w).alloc (zq _) _
  have hsz : w.heap.size < W0.heap.size := by rw [← hW0]; simp
  have ha0 := ha.below hbw
  obtain ⟨hc0, hc1, hcx⟩ := row_eight hrow
  unfold askV
  go_enter Tryz.func57, Tryz.ntmps57
  go_wp2_with fail
  rename_i K hKK
  try rw [hW0]
  have REST : Hid (∀ (g1 g2 : Nat) (A1 : Option Addr) (c1 : Nat) (W : World), (W.cell? ⟨w.heap.size, 0, none⟩ = some (.int .i64 code) ∧ W.cell? ⟨w.heap.size, 1, none⟩ = some (.int .i64 addr) ∧ W0.heap.size ≤ W.heap.size ∧ Below W0.heap.size W0 W) → W.ownsRow W0.heap.size 5 1 (.slice A1 3 c1) 3 ((Ak.head ⟨code, addr, count, to, words, bits, and_, or_⟩).map u8v) →
      K { tmps := #[.agg #[.int .i64 code, .int .i64 addr, .int .i64 count, .int .i64 to, .slice hA hn hc, .slice kA kn kc, u16v and_, u16v or_], .pointer (some ⟨w.heap.size, 0, none⟩), .slice none 0 0, .slice A1 3 c1, undef, undef, undef, .pointer (some ⟨w.heap.size, 0, none⟩), .int .i64 code, .int .u8 code, .slice (some ⟨g1, 0, none⟩) 1 1, .pointer (some ⟨w.heap.size, 1, none⟩), .int .i64 addr, .slice (some ⟨g2, 0, none⟩) 2 2, .slice A1 3 c1, undef, undef, undef, undef, undef, undef, undef, undef, undef, undef, undef, undef, undef, undef, undef, undef, undef, undef, undef, undef, undef, undef, undef, undef, undef, undef, undef, undef, undef, undef, undef, undef, undef, undef, undef, undef, undef, undef, undef, undef, undef, undef, undef, undef, undef, undef, undef, undef, undef, undef, undef, undef, undef, undef, undef, undef, undef, undef, undef, undef, undef, undef, undef, undef, undef, undef, undef, undef, undef, undef, undef, undef, undef, undef, undef, undef, undef, undef, undef, undef, undef, undef, undef, undef, undef, undef, undef, undef, undef, undef, undef, undef, undef, undef, undef, undef, undef, undef, undef, undef, undef, undef, undef, undef, undef, undef, undef, undef, undef, undef, undef, undef, undef, undef], defers := [] } W) := qh (by
    intro g1 g2 A1 c1 W hS ho
    have hbe := hS.2.2.2
    have hz := hS.2.2.1
    have e1 : words.length = hn := ha0.hn
    have e2 : bits.length = kn := ha0.kn
    have hrowW := (hbe.block _ hsz).trans hrow
    obtain ⟨d0, d1, d2, d3, d4, d5, d6, d7⟩ := row_eight hrowW
    have hltW : w.heap.size < W.heap.size := Nat.lt_of_lt_of_le hsz hz
    have hfw : Ak.fits words.length (Ak.most code).2.1 = true := by
      unfold Ak.formed at hf
      simp only [Bool.and_eq_true] at hf
      exact hf.1.1.1.2
    have hft : Ak.fits bits.length (Ak.most code).2.2 = true := by
      unfold Ak.formed at hf
      simp only [Bool.and_eq_true] at hf
      exact hf.1.1.2
    have hfc : Ak.fits count (Ak.most code).1 = true := by
      unfold Ak.formed at hf
      simp only [Bool.and_eq_true] at hf
      exact hf.1.1.1.1.2
    have h43 : (code != 43 || decide (addr ≤ 255)) = true := by
      unfold Ak.formed at hf
      simp only [Bool.and_eq_true] at hf
      exact hf.2.2
    simp only [Ak.codes, List.mem_cons, List.not_mem_nil, or_false] at b0
    refine hKK _ _ ?_
    have HR0 := qh hrow
    clear hKK hS hrow hcx hc0 hc1 hW0 hf
    rcases b0 with rfl | rfl | rfl | rfl | rfl | rfl | rfl | rfl | rfl | rfl | rfl
    · go_wp2_with fail
      refine (rtwo_own count (by omega) (by omega) _).mono ?_
      rintro e w2 ⟨rfl, hq2, hb2⟩
      have ho2 := own_below ho hb2
      have hbe2 := hbe.trans (hb2.mono hz)
      have hz2 := hbe2.size
      go_wp2_with (at_builtin; go_must (refine wpList_append_lies kit8 one8 _ rfl (.tmp 22) (.tmp 25) rfl W0.heap.size _ 3 _ rfl ho2 _ 2 _ _ rfl (own_src hq2).1 (own_src hq2).2 (by omega) (by unfold maxLen; omega) hz2 ?_; intro A3 c3 w3 ho3 hg3 hb3))
      have hbe3 := hbe2.trans hb3
      go_ret
      exact TextPost.mk w W0 _ _ _ _ _ _ hbw (by simp [Ak.text] <;> rfl) (by simp [Ak.head, Ak.two]) ho3 hbe3
    · go_wp2_with fail
      refine (rtwo_own count (by omega) (by omega) _).mono ?_
      rintro e w2 ⟨rfl, hq2, hb2⟩
      have ho2 := own_below ho hb2
      have hbe2 := hbe.trans (hb2.mono hz)
      have hz2 := hbe2.size
      go_wp2_with (at_builtin; go_must (refine wpList_append_lies kit8 one8 _ rfl (.tmp 22) (.tmp 25) rfl W0.heap.size _ 3 _ rfl ho2 _ 2 _ _ rfl (own_src hq2).1 (own_src hq2).2 (by omega) (by unfold maxLen; omega) hz2 ?_; intro A3 c3 w3 ho3 hg3 hb3))
      have hbe3 := hbe2.trans hb3
      go_ret
      exact TextPost.mk w W0 _ _ _ _ _ _ hbw (by simp [Ak.text] <;> rfl) (by simp [Ak.head, Ak.two]) ho3 hbe3
    · go_wp2_with fail
      refine (rtwo_own count (by omega) (by omega) _).mono ?_
      rintro e w2 ⟨rfl, hq2, hb2⟩
      have ho2 := own_below ho hb2
      have hbe2 := hbe.trans (hb2.mono hz)
      have hz2 := hbe2.size
      go_wp2_with (at_builtin; go_must (refine wpList_append_lies kit8 one8 _ rfl (.tmp 22) (.tmp 25) rfl W0.heap.size _ 3 _ rfl ho2 _ 2 _ _ rfl (own_src hq2).1 (own_src hq2).2 (by omega) (by unfold maxLen; omega) hz2 ?_; intro A3 c3 w3 ho3 hg3 hb3))
      have hbe3 := hbe2.trans hb3
      go_ret
      exact TextPost.mk w W0 _ _ _ _ _ _ hbw (by simp [Ak.text] <;> rfl) (by simp [Ak.head, Ak.two]) ho3 hbe3
    · go_wp2_with fail
      refine (rtwo_own count (by omega) (by omega) _).mono ?_
      rintro e w2 ⟨rfl, hq2, hb2⟩
      have ho2 := own_below ho hb2
      have hbe2 := hbe.trans (hb2.mono hz)
      have hz2 := hbe2.size
      go_wp2_with (at_builtin; go_must (refine wpList_append_lies kit8 one8 _ rfl (.tmp 22) (.tmp 25) rfl W0.heap.size _ 3 _ rfl ho2 _ 2 _ _ rfl (own_src hq2).1 (own_src hq2).2 (by omega) (by unfold maxLen; omega) hz2 ?_; intro A3 c3 w3 ho3 hg3 hb3))
      have hbe3 := hbe2.trans hb3
      go_ret
      exact TextPost.mk w W0 _ _ _ _ _ _ hbw (by simp [Ak.text] <;> rfl) (by simp [Ak.head, Ak.two]) ho3 hbe3
    · obtain ⟨x, rfl⟩ : ∃ x, bits = [x] := by
        have h1 : bits.length = 1 := by
          have := Ak.fits_le hft (by decide)
          unfold Ak.fits at hft
          simp [Ak.most] at hft this
          omega
        exact List.length_eq_one_iff.1 h1
      obtain ⟨bb, bo, rfl, _, hbc⟩ := (ha0.kl.below hbe (zq _)).at_ (by simp)
      have hx0 : W.cell? ⟨bb, bo, none⟩ = some (.bool x) := hbc 0 (by simp)
      have hk0 : 0 < kn := by have := ha0.kn; simp at this; omega
      clear hbc
      cases x with
      | true =>
        go_wp2_with (at_builtin; go_must (refine wpList_append_lies kit8 one8 _ rfl (.tmp 33) (.tmp 34) rfl W0.heap.size _ 3 _ rfl (ho.alloc _) _ 2 _ _ rfl (own_src (own_lit u8v W #[.int .u8 255, .int .u8 0] 5 W0.heap.size _ 2 [255, 0] rfl rfl hz rfl (by unfold maxLen; omega))).1 (own_src (own_lit u8v W #[.int .u8 255, .int .u8 0] 5 W0.heap.size _ 2 [255, 0] rfl rfl hz rfl (by unfold maxLen; omega))).2 (by omega) (by unfold maxLen; omega) (by simp; omega) ?_; intro A3 c3 w3 ho3 hg3 hb3))
        have hbe3 := (hbe.alloc hz _).trans hb3
        go_ret
        exact TextPost.mk w W0 _ _ _ _ _ _ hbw (by simp [Ak.text] <;> rfl) (by simp [Ak.head, Ak.two]) ho3 hbe3
      | false =>
        go_wp2_with (at_builtin; go_must (refine wpList_append_lies kit8 one8 _ rfl (.tmp 36) (.tmp 37) rfl W0.heap.size _ 3 _ rfl (ho.alloc _) _ 2 _ _ rfl (own_src (own_lit u8v W #[.int .u8 0, .int .u8 0] 5 W0.heap.size _ 2 [0, 0] rfl rfl hz rfl (by unfold maxLen; omega))).1 (own_src (own_lit u8v W #[.int .u8 0, .int .u8 0] 5 W0.heap.size _ 2 [0, 0] rfl rfl hz rfl (by unfold maxLen; omega))).2 (by omega) (by unfold maxLen; omega) (by simp; omega) ?_; intro A3 c3 w3 ho3 hg3 hb3))
        have hbe3 := (hbe.alloc hz _).trans hb3
        go_ret
        exact TextPost.mk w W0 _ _ _ _ _ _ hbw (by simp [Ak.text] <;> rfl) (by simp [Ak.head, Ak.two]) ho3 hbe3
    · go_wp2_with fail
      refine (rbytes_own hA hn hc words ha0.hn (by omega) _ (ha0.hl.below hbe (zq _))).mono ?_
      rintro e w2 ⟨Ap, cp, rfl, hp2, hb2⟩
      have ho2 := own_below ho hb2
      have hbe2 := hbe.trans (hb2.mono hz)
      have hz2 := hbe2.size
      go_wp2_with (at_builtin; go_must (refine wpList_append_lies kit8 one8 _ rfl (.tmp 41) (.tmp 44) rfl W0.heap.size _ 3 _ rfl ho2 _ (2 * hn) _ _ rfl (own_src hp2).1 (own_src hp2).2 (by omega) (by unfold maxLen; omega) hz2 ?_; intro A3 c3 w3 ho3 hg3 hb3))
      have hbe3 := hbe2.trans hb3
      go_ret
      exact TextPost.mk w W0 _ _ _ _ _ _ hbw (by simp [Ak.text] <;> rfl) (by simp [Ak.head, Ak.two, Word.bytes_length]; have := ha0.hn; simp at this; omega) ho3 hbe3
    · go_wp2_with fail
      refine (rpack_own kA kn kc bits ha0.kn (by omega) _ (ha0.kl.below hbe (zq _))).mono ?_
      rintro e w2 ⟨Ap, cp, rfl, hp2, hb2⟩
      have ho2 := own_below ho hb2
      have hbe2 := hbe.trans (hb2.mono hz)
      have hz2 := hbe2.size
      obtain ⟨m, hm⟩ : ∃ m, (kn + 7) / 8 = m := ⟨_, rfl⟩
      rw [hm] at hp2 ⊢
      have HM := qh hm
      have hm2 : m < 256 := by omega
      have hwl : IntKind.u8.wrap (m : Int) = m := by rw [IntKind.wrap_u8]; omega
      clear hm
      have HI := qh (own_ins hp2 (zq _))
      have hs2 := zq w2.heap.size
      have hx2 := own_off (lo := W.heap.size) (hi := w2.heap.size) ho (zq _)
      obtain ⟨d0, d1, d2, d3, d4, d5, d6, d7⟩ := row_eight (row_later hrowW hb2)
      have hltW : w.heap.size < w2.heap.size := Nat.lt_of_lt_of_le hltW hb2.size
      go_wp2_with fail
      refine (rtwo_own (kn : Int) (by omega) (by omega) _).mono ?_
      rintro e w3 ⟨rfl, hq3, hb3⟩
      have ho3 := own_below ho2 hb3
      have hp3 := own_below hp2 hb3
      have hbe3 := hbe2.trans (hb3.mono hz2)
      have hz3 := hbe3.size
      have hs3 := Nat.le_trans hs2 hb3.size
      clear ho2 hp2
      go_wp2_with (first | ((with_reducible show wpList _ _ _ (⟨some 56, _, _, _, _, _⟩ :: _) _ _); go_must (refine wpList_append_led kit8 one8 _ rfl (.tmp 51) (.tmp 55) rfl W0.heap.size _ 3 _ rfl ho3 _ 2 _ _ rfl (own_src hq3).1 (own_src hq3).2 (by omega) (by unfold maxLen; omega) hz3 ?_); intro A4 c4 w4 ho4 hg4 hb4 hd4; have hp4 := own_beside hp3 hg4 HI.out hx2; have hx4 := hd4.off hx2 hs3; have hbe4 := hbe3.trans hb4; have hz4 := hbe4.size; have hs4 := Nat.le_trans hs3 hb4.size) | ((with_reducible show wpList _ _ _ (⟨some 61, _, _, _, _, _⟩ :: _) _ _); go_must (refine wpList_append_led kit8 one8 _ rfl (.tmp 56) (.tmp 60) rfl W0.heap.size _ (3 + 2) _ rfl (ho4.alloc _) _ 1 _ _ rfl (own_src (own_lit u8v w4 #[.int .u8 (m : Int)] 5 W0.heap.size _ 1 [Ak.b1 m] (b1_map m hm2) rfl hz4 rfl (by unfold maxLen; omega))).1 (own_src (own_lit u8v w4 #[.int .u8 (m : Int)] 5 W0.heap.size _ 1 [Ak.b1 m] (b1_map m hm2) rfl hz4 rfl (by unfold maxLen; omega))).2 (by omega) (by unfold maxLen; omega) (by simp; omega) ?_); intro A5 c5 w5 ho5 hg5 hb5 hd5; have hp5 := own_beside (hp4.alloc _) hg5 HI.out hx4; have hx5 := hd5.off hx4 (by simp; omega); have hbe5 := (hbe4.alloc hz4 _).trans hb5; have hz5 := hbe5.size; have hs5 : w2.heap.size ≤ w5.heap.size := by (have := hb5.size; simp at this; omega)) | ((with_reducible show wpList _ _ _ (⟨some 63, _, _, _, _, _⟩ :: _) _ _); go_must (refine wpList_append_led kit8 one8 _ rfl (.tmp 61) (.tmp 62) rfl W0.heap.size _ (3 + 2 + 1) _ rfl ho5 _ m _ _ rfl (own_src hp5).1 (own_src hp5).2 (by omega) (by unfold maxLen; omega) hz5 ?_); intro A6 c6 w6 ho6 hg6 hb6 hd6; have hbe6 := hbe5.trans hb6))
      go_ret
      exact TextPost.mk w W0 _ _ _ _ _ _ hbw (by simp [Ak.text, Word.pack_length, e2, HM.out]) (by simp [Ak.head, Ak.two, Word.pack_length, e2, HM.out]; omega) ho6 hbe6
    · go_wp2_with fail
      refine (rbytes_own hA hn hc words ha0.hn (by omega) _ (ha0.hl.below hbe (zq _))).mono ?_
      rintro e w2 ⟨Ap, cp, rfl, hp2, hb2⟩
      have ho2 := own_below ho hb2
      have hbe2 := hbe.trans (hb2.mono hz)
      have hz2 := hbe2.size
      obtain ⟨m, hm⟩ : ∃ m, 2 * hn = m := ⟨_, rfl⟩
      rw [hm] at hp2 ⊢
      have HM := qh hm
      have hm2 : m < 256 := by omega
      have hwl : IntKind.u8.wrap (m : Int) = m := by rw [IntKind.wrap_u8]; omega
      clear hm
      have HI := qh (own_ins hp2 (zq _))
      have hs2 := zq w2.heap.size
      have hx2 := own_off (lo := W.heap.size) (hi := w2.heap.size) ho (zq _)
      obtain ⟨d0, d1, d2, d3, d4, d5, d6, d7⟩ := row_eight (row_later hrowW hb2)
      have hltW : w.heap.size < w2.heap.size := Nat.lt_of_lt_of_le hltW hb2.size
      go_wp2_with fail
      refine (rtwo_own (hn : Int) (by omega) (by omega) _).mono ?_
      rintro e w3 ⟨rfl, hq3, hb3⟩
      have ho3 := own_below ho2 hb3
      have hp3 := own_below hp2 hb3
      have hbe3 := hbe2.trans (hb3.mono hz2)
      have hz3 := hbe3.size
      have hs3 := Nat.le_trans hs2 hb3.size
      clear ho2 hp2
      go_wp2_with (first | ((with_reducible show wpList _ _ _ (⟨some 74, _, _, _, _, _⟩ :: _) _ _); go_must (refine wpList_append_led kit8 one8 _ rfl (.tmp 69) (.tmp 73) rfl W0.heap.size _ 3 _ rfl ho3 _ 2 _ _ rfl (own_src hq3).1 (own_src hq3).2 (by omega) (by unfold maxLen; omega) hz3 ?_); intro A4 c4 w4 ho4 hg4 hb4 hd4; have hp4 := own_beside hp3 hg4 HI.out hx2; have hx4 := hd4.off hx2 hs3; have hbe4 := hbe3.trans hb4; have hz4 := hbe4.size; have hs4 := Nat.le_trans hs3 hb4.size) | ((with_reducible show wpList _ _ _ (⟨some 79, _, _, _, _, _⟩ :: _) _ _); go_must (refine wpList_append_led kit8 one8 _ rfl (.tmp 74) (.tmp 78) rfl W0.heap.size _ (3 + 2) _ rfl (ho4.alloc _) _ 1 _ _ rfl (own_src (own_lit u8v w4 #[.int .u8 (m : Int)] 5 W0.heap.size _ 1 [Ak.b1 m] (b1_map m hm2) rfl hz4 rfl (by unfold maxLen; omega))).1 (own_src (own_lit u8v w4 #[.int .u8 (m : Int)] 5 W0.heap.size _ 1 [Ak.b1 m] (b1_map m hm2) rfl hz4 rfl (by unfold maxLen; omega))).2 (by omega) (by unfold maxLen; omega) (by simp; omega) ?_); intro A5 c5 w5 ho5 hg5 hb5 hd5; have hp5 := own_beside (hp4.alloc _) hg5 HI.out hx4; have hx5 := hd5.off hx4 (by simp; omega); have hbe5 := (hbe4.alloc hz4 _).trans hb5; have hz5 := hbe5.size; have hs5 : w2.heap.size ≤ w5.heap.size := by (have := hb5.size; simp at this; omega)) | ((with_reducible show wpList _ _ _ (⟨some 81, _, _, _, _, _⟩ :: _) _ _); go_must (refine wpList_append_led kit8 one8 _ rfl (.tmp 79) (.tmp 80) rfl W0.heap.size _ (3 + 2 + 1) _ rfl ho5 _ m _ _ rfl (own_src hp5).1 (own_src hp5).2 (by omega) (by unfold maxLen; omega) hz5 ?_); intro A6 c6 w6 ho6 hg6 hb6 hd6; have hbe6 := hbe5.trans hb6))
      go_ret
      exact TextPost.mk w W0 _ _ _ _ _ _ hbw (by simp [Ak.text, Word.bytes_length, e1, HM.out]) (by simp [Ak.head, Ak.two, Word.bytes_length, e1, HM.out]; omega) ho6 hbe6
    · have n22a : (and_.toNat : Int) < 65536 := by have := and_.toNat_lt; omega
      have n22b : (or_.toNat : Int) < 65536 := by have := or_.toNat_lt; omega
      have n22c : IntKind.i64.wrap (and_.toNat : Int) = (and_.toNat : Int) := by rw [IntKind.wrap_i64]; omega
      have n22d : IntKind.i64.wrap (or_.toNat : Int) = (or_.toNat : Int) := by rw [IntKind.wrap_i64]; omega
      have KK : Hid (∀ W1 W2 : World, Below W1.heap.size W1 W2 → (W1.cell? ⟨w.heap.size, 6, none⟩ = some (u16v and_) ∧ W1.cell? ⟨w.heap.size, 7, none⟩ = some (u16v or_) ∧ W0.heap.size ≤ W1.heap.size ∧ Below W0.heap.size W0 W1) → (W2.cell? ⟨w.heap.size, 6, none⟩ = some (u16v and_) ∧ W2.cell? ⟨w.heap.size, 7, none⟩ = some (u16v or_) ∧ W0.heap.size ≤ W2.heap.size ∧ Below W0.heap.size W0 W2)) := qh (fun W1 W2 h h1 => ⟨cell_later h h1.1, cell_later h h1.2.1, Nat.le_trans h1.2.2.1 h.size, h1.2.2.2.trans (h.mono h1.2.2.1)⟩)
      have KL : Hid (∀ W1 W2 : World, Below W0.heap.size W1 W2 → (W1.cell? ⟨w.heap.size, 6, none⟩ = some (u16v and_) ∧ W1.cell? ⟨w.heap.size, 7, none⟩ = some (u16v or_) ∧ W0.heap.size ≤ W1.heap.size ∧ Below W0.heap.size W0 W1) → (W2.cell? ⟨w.heap.size, 6, none⟩ = some (u16v and_) ∧ W2.cell? ⟨w.heap.size, 7, none⟩ = some (u16v or_) ∧ W0.heap.size ≤ W2.heap.size ∧ Below W0.heap.size W0 W2)) := qh (fun W1 W2 h h1 => ⟨(h.cell (p := ⟨w.heap.size, 6, none⟩) hsz).trans h1.1, (h.cell (p := ⟨w.heap.size, 7, none⟩) hsz).trans h1.2.1, Nat.le_trans h1.2.2.1 h.size, h1.2.2.2.trans h⟩)
      have hS1 : (W.drew.cell? ⟨w.heap.size, 6, none⟩ = some (u16v and_) ∧ W.drew.cell? ⟨w.heap.size, 7, none⟩ = some (u16v or_) ∧ W0.heap.size ≤ W.drew.heap.size ∧ Below W0.heap.size W0 W.drew) := ⟨d6, d7, hz, drewN_below hbe 1⟩
      have hod : World.ownsRow W.drew W0.heap.size 5 1 (.slice A1 3 c1) 3 _ := ho
      go_wp2_with fail
      go_region_held3 (fun W => (W.cell? ⟨w.heap.size, 6, none⟩ = some (u16v and_) ∧ W.cell? ⟨w.heap.size, 7, none⟩ = some (u16v or_) ∧ W0.heap.size ≤ W.heap.size ∧ Below W0.heap.size W0 W)) (first | with_reducible assumption | fail) (first | (go_at_call 101; (with_reducible refine (rtwo_own (and_.toNat : Int) (by omega) n22a _).mono ?_); rintro e w' ⟨rfl, hq1, hb'⟩; have hh := KK.out _ _ hb' (by with_reducible assumption); have hzz := hh.2.2.1; have ho1 := own_below hod hb') | (go_at_call 101; (with_reducible refine (rtwo_own (or_.toNat : Int) (by omega) n22b _).mono ?_); rintro e w' ⟨rfl, hq2, hb'⟩; have hh := KK.out _ _ hb' (by with_reducible assumption); have hzz := hh.2.2.1; (first | (have ho2 := own_below hoA hb') | (have ho2 := own_below ho1 hb'; have hq1' := own_below hq1 hb'))) | (refine step_append_led kit8 one8 _ (by rfl) (.tmp 84) (.tmp 88) (by rfl) W0.heap.size _ 3 _ (by rfl) ho2 _ 2 2 _ (by rfl) (own_src hq1').1 (own_src hq1').2 (by omega) (by unfold maxLen; omega) hzz ?_; intro AA cA wA hoA hgA hbA hdA; have hhA := KL.out _ _ hbA (by with_reducible assumption); have hzz := hhA.2.2.1; have hq2' := own_grown hq2 hgA ho2 (own_lt ho1)) | (refine step_append_led kit8 one8 _ (by rfl) (.tmp 84) (.tmp 88) (by rfl) W0.heap.size _ 3 _ (by rfl) ho1 _ 2 2 _ (by rfl) (own_src hq1).1 (own_src hq1).2 (by omega) (by unfold maxLen; omega) hzz ?_; intro AA cA wA hoA hgA hbA hdA; have hhA := KL.out _ _ hbA (by with_reducible assumption); have hzz := hhA.2.2.1) | (refine step_append_led kit8 one8 _ (by rfl) (.tmp 89) (.tmp 93) (by rfl) W0.heap.size _ 5 _ (by rfl) ho2 _ 2 2 _ (by rfl) (own_src hq2).1 (own_src hq2).2 (by omega) (by unfold maxLen; omega) hzz ?_; intro AE cE wE hoE hgE hbE hdE; have hhE := KL.out _ _ hbE (by with_reducible assumption); have hzz := hhE.2.2.1) | (refine step_append_led kit8 one8 _ (by rfl) (.tmp 89) (.tmp 93) (by rfl) W0.heap.size _ 5 _ (by rfl) hoA _ 2 2 _ (by rfl) (own_src hq2').1 (own_src hq2').2 (by omega) (by unfold maxLen; omega) hzz ?_; intro AE cE wE hoE hgE hbE hdE; have hhE := KL.out _ _ hbE (by with_reducible assumption); have hzz := hhE.2.2.1) | fail)
      all_goals go_wp2_with fail
      all_goals go_ret
      all_goals exact TextPost.mk w W0 _ _ _ _ _ _ hbw (by simp [Ak.text]) (by simp [Ak.head, Ak.two]) hoE hhE.2.2.2
    · go_wp2_with fail
      refine (rbytes_own hA hn hc words ha0.hn (by omega) _ (ha0.hl.below hbe (zq _))).mono ?_
      rintro e w2 ⟨Ap, cp, rfl, hp2, hb2⟩
      have ho2 := own_below ho hb2
      have hbe2 := hbe.trans (hb2.mono hz)
      have hz2 := hbe2.size
      obtain ⟨m, hm⟩ : ∃ m, 2 * hn = m := ⟨_, rfl⟩
      rw [hm] at hp2 ⊢
      have HM := qh hm
      have hm2 : m < 256 := by omega
      have hwl : IntKind.u8.wrap (m : Int) = m := by rw [IntKind.wrap_u8]; omega
      clear hm
      have n23a : count < 65536 := by omega
      have n23b : to < 65536 := by omega
      have HI := qh (own_ins hp2 (zq _))
      have hs2 := zq w2.heap.size
      have hx2 := own_off (lo := W.heap.size) (hi := w2.heap.size) ho (zq _)
      obtain ⟨d0, d1, d2, d3, d4, d5, d6, d7⟩ := row_eight (row_later hrowW hb2)
      have hltW : w.heap.size < w2.heap.size := Nat.lt_of_lt_of_le hltW hb2.size
      have ho2_ := ho2
      clear ho2
      have KK : Hid (∀ W1 W2 : World, Below W1.heap.size W1 W2 → (W1.cell? ⟨w.heap.size, 2, none⟩ = some (.int .i64 count) ∧ W1.cell? ⟨w.heap.size, 3, none⟩ = some (.int .i64 to) ∧ W0.heap.size ≤ W1.heap.size ∧ Below W0.heap.size W0 W1) → (W2.cell? ⟨w.heap.size, 2, none⟩ = some (.int .i64 count) ∧ W2.cell? ⟨w.heap.size, 3, none⟩ = some (.int .i64 to) ∧ W0.heap.size ≤ W2.heap.size ∧ Below W0.heap.size W0 W2)) := qh (fun W1 W2 h h1 => ⟨cell_later h h1.1, cell_later h h1.2.1, Nat.le_trans h1.2.2.1 h.size, h1.2.2.2.trans (h.mono h1.2.2.1)⟩)
      have KL : Hid (∀ W1 W2 : World, Below W0.heap.size W1 W2 → (W1.cell? ⟨w.heap.size, 2, none⟩ = some (.int .i64 count) ∧ W1.cell? ⟨w.heap.size, 3, none⟩ = some (.int .i64 to) ∧ W0.heap.size ≤ W1.heap.size ∧ Below W0.heap.size W0 W1) → (W2.cell? ⟨w.heap.size, 2, none⟩ = some (.int .i64 count) ∧ W2.cell? ⟨w.heap.size, 3, none⟩ = some (.int .i64 to) ∧ W0.heap.size ≤ W2.heap.size ∧ Below W0.heap.size W0 W2)) := qh (fun W1 W2 h h1 => ⟨(h.cell (p := ⟨w.heap.size, 2, none⟩) hsz).trans h1.1, (h.cell (p := ⟨w.heap.size, 3, none⟩) hsz).trans h1.2.1, Nat.le_trans h1.2.2.1 h.size, h1.2.2.2.trans h⟩)
      have hS1 : (w2.drew.cell? ⟨w.heap.size, 2, none⟩ = some (.int .i64 count) ∧ w2.drew.cell? ⟨w.heap.size, 3, none⟩ = some (.int .i64 to) ∧ W0.heap.size ≤ w2.drew.heap.size ∧ Below W0.heap.size W0 w2.drew) := ⟨d2, d3, hz2, drewN_below hbe2 1⟩
      have hod : World.ownsRow w2.drew W0.heap.size 5 1 (.slice A1 3 c1) 3 _ := ho2_
      have hpd : World.ownsRow w2.drew W.heap.size 5 1 (.slice Ap m cp) m _ := hp2
      go_wp2_with fail
      go_region_held3 (fun W => (W.cell? ⟨w.heap.size, 2, none⟩ = some (.int .i64 count) ∧ W.cell? ⟨w.heap.size, 3, none⟩ = some (.int .i64 to) ∧ W0.heap.size ≤ W.heap.size ∧ Below W0.heap.size W0 W)) (first | with_reducible assumption | fail) (first | (go_at_call 101; (with_reducible refine (rtwo_own count b5 n23a _).mono ?_); rintro e w' ⟨rfl, hq1, hb'⟩; have hh := KK.out _ _ hb' (by with_reducible assumption); have hzz := hh.2.2.1; have ho1 := own_below hod hb'; have hp1 := own_below hpd hb'; have hsq : w2.heap.size ≤ w'.heap.size := hb'.size) | (go_at_call 101; (with_reducible refine (rtwo_own to b3 n23b _).mono ?_); rintro e w' ⟨rfl, hq2, hb'⟩; have hh := KK.out _ _ hb' (by with_reducible assumption); have hzz := hh.2.2.1; (first | (have ho2 := own_below hoA hb'; have hp3 := own_below hpA hb') | (have ho2 := own_below ho1 hb'; have hq1' := own_below hq1 hb'; have hp3 := own_below hp1 hb')); have hsq : w2.heap.size ≤ w'.heap.size := Nat.le_trans hsq hb'.size) | (refine step_append_led kit8 one8 _ (by rfl) (.tmp 100) (.tmp 103) (by rfl) W0.heap.size _ 3 _ (by rfl) ho2 _ 2 2 _ (by rfl) (own_src hq1').1 (own_src hq1').2 (by omega) (by unfold maxLen; omega) hzz ?_; intro AA cA wA hoA hgA hbA hdA; have hhA := KL.out _ _ hbA (by with_reducible assumption); have hzz := hhA.2.2.1; have hq2' := own_grown hq2 hgA ho2 (own_lt ho1); have hpA := own_beside hp3 hgA HI.out hx2; have hxA := hdA.off hx2 hsq; have hsq : w2.heap.size ≤ wA.heap.size := Nat.le_trans hsq hbA.size) | (refine step_append_led kit8 one8 _ (by rfl) (.tmp 100) (.tmp 103) (by rfl) W0.heap.size _ 3 _ (by rfl) ho1 _ 2 2 _ (by rfl) (own_src hq1).1 (own_src hq1).2 (by omega) (by unfold maxLen; omega) hzz ?_; intro AA cA wA hoA hgA hbA hdA; have hhA := KL.out _ _ hbA (by with_reducible assumption); have hzz := hhA.2.2.1; have hpA := own_beside hp1 hgA HI.out hx2; have hxA := hdA.off hx2 hsq; have hsq : w2.heap.size ≤ wA.heap.size := Nat.le_trans hsq hbA.size) | (refine step_append_led kit8 one8 _ (by rfl) (.tmp 104) (.tmp 107) (by rfl) W0.heap.size _ 5 _ (by rfl) ho2 _ 2 2 _ (by rfl) (own_src hq2).1 (own_src hq2).2 (by omega) (by unfold maxLen; omega) hzz ?_; intro AE cE wE hoE hgE hbE hdE; have hhE := KL.out _ _ hbE (by with_reducible assumption); have hzz := hhE.2.2.1; have hpE := own_beside hp3 hgE HI.out hxA; have hxE := hdE.off hxA hsq; have hsq : w2.heap.size ≤ wE.heap.size := Nat.le_trans hsq hbE.size) | (refine step_append_led kit8 one8 _ (by rfl) (.tmp 104) (.tmp 107) (by rfl) W0.heap.size _ 5 _ (by rfl) hoA _ 2 2 _ (by rfl) (own_src hq2').1 (own_src hq2').2 (by omega) (by unfold maxLen; omega) hzz ?_; intro AE cE wE hoE hgE hbE hdE; have hhE := KL.out _ _ hbE (by with_reducible assumption); have hzz := hhE.2.2.1; have hpE := own_beside hpA hgE HI.out hxA; have hxE := hdE.off hxA hsq; have hsq : w2.heap.size ≤ wE.heap.size := Nat.le_trans hsq hbE.size) | fail)
      all_goals
        have hbeE := hhE.2.2.2
        have hzE := hhE.2.2.1
        have hsE : w2.heap.size ≤ wE.heap.size := hsq
        obtain ⟨d0, d1, d2, d3, d4, d5, d6, d7⟩ := row_eight ((hbeE.block _ hsz).trans HR0.out)
        have hltE : w.heap.size < wE.heap.size := Nat.lt_of_lt_of_le hsz hzE
        go_wp2_with fail
        refine (rtwo_own (hn : Int) (by omega) (by omega) _).mono ?_
        rintro e w5 ⟨rfl, hq5, hb5⟩
        have ho5 := own_below hoE hb5
        have hp5 := own_below hpE hb5
        have hbe5 := hbeE.trans (hb5.mono hzE)
        have hz5 := hbe5.size
        have hs5 := Nat.le_trans hsE hb5.size
        clear hoE hpE
        go_wp2_with (first | ((with_reducible show wpList _ _ _ (⟨some 114, _, _, _, _, _⟩ :: _) _ _); go_must (refine wpList_append_led kit8 one8 _ rfl (.tmp 109) (.tmp 113) rfl W0.heap.size _ 7 _ rfl ho5 _ 2 _ _ rfl (own_src hq5).1 (own_src hq5).2 (by omega) (by unfold maxLen; omega) hz5 ?_); intro A6 c6 w6 ho6 hg6 hb6 hd6; have hp6 := own_beside hp5 hg6 HI.out hxE; have hx6 := hd6.off hxE hs5; have hbe6 := hbe5.trans hb6; have hz6 := hbe6.size; have hs6 := Nat.le_trans hs5 hb6.size) | ((with_reducible show wpList _ _ _ (⟨some 119, _, _, _, _, _⟩ :: _) _ _); go_must (refine wpList_append_led kit8 one8 _ rfl (.tmp 114) (.tmp 118) rfl W0.heap.size _ (7 + 2) _ rfl (ho6.alloc _) _ 1 _ _ rfl (own_src (own_lit u8v w6 #[.int .u8 (m : Int)] 5 W0.heap.size _ 1 [Ak.b1 m] (b1_map m hm2) rfl hz6 rfl (by unfold maxLen; omega))).1 (own_src (own_lit u8v w6 #[.int .u8 (m : Int)] 5 W0.heap.size _ 1 [Ak.b1 m] (b1_map m hm2) rfl hz6 rfl (by unfold maxLen; omega))).2 (by omega) (by unfold maxLen; omega) (by simp; omega) ?_); intro A7 c7 w7 ho7 hg7 hb7 hd7; have hp7 := own_beside (hp6.alloc _) hg7 HI.out hx6; have hx7 := hd7.off hx6 (by simp; omega); have hbe7 := (hbe6.alloc hz6 _).trans hb7; have hz7 := hbe7.size; have hs7 : w2.heap.size ≤ w7.heap.size := by (have := hb7.size; simp at this; omega)) | ((with_reducible show wpList _ _ _ (⟨some 121, _, _, _, _, _⟩ :: _) _ _); go_must (refine wpList_append_led kit8 one8 _ rfl (.tmp 119) (.tmp 120) rfl W0.heap.size _ (7 + 2 + 1) _ rfl ho7 _ m _ _ rfl (own_src hp7).1 (own_src hp7).2 (by omega) (by unfold maxLen; omega) hz7 ?_); intro A8 c8 w8 ho8 hg8 hb8 hd8; have hbe8 := hbe7.trans hb8))
        go_ret
        exact TextPost.mk w W0 _ _ _ _ _ _ hbw (by simp [Ak.text, Word.bytes_length, e1, HM.out]) (by simp [Ak.head, Ak.two, Word.bytes_length, e1, HM.out]; omega) ho8 hbe8
    · have h9 := (Ak.fits_le hfc (by decide)).2
      have h10 : addr ≤ 255 := by simpa using h43
      have h11 : count ≤ 4 := by simpa [Ak.most] using h9
      have q1 : IntKind.u8.wrap count = count := by rw [IntKind.wrap_u8]; omega
      have q2 : IntKind.u8.wrap addr = addr := by rw [IntKind.wrap_u8]; omega
      have q3 : [Value.int .u8 count] = [Ak.b1 count.toNat].map u8v := by
        have := b1_map count.toNat (by omega)
        rwa [Int.toNat_of_nonneg b5] at this
      have q4 : [Value.int .u8 addr] = [Ak.b1 addr.toNat].map u8v := by
        have := b1_map addr.toNat (by omega)
        rwa [Int.toNat_of_nonneg b1] at this
      have q5 : [Value.int .u8 43, .int .u8 14, .int .u8 count, .int .u8 addr] = [(43 : UInt8), 14, Ak.b1 count.toNat, Ak.b1 addr.toNat].map u8v := by
        have e3 : Value.int .u8 count = u8v (Ak.b1 count.toNat) := by simpa using q3
        have e4 : Value.int .u8 addr = u8v (Ak.b1 addr.toNat) := by simpa using q4
        rw [e3, e4]
        rfl
      have Q5 := qh q5
      clear q3 q4 q5
      go_wp2_with fail
      go_ret
      exact TextPost.mk w W0 _ _ _ _ _ [43, 14, Ak.b1 count.toNat, Ak.b1 addr.toNat] hbw (by simp [Ak.text]) rfl (own_lit u8v W #[.int .u8 43, .int .u8 14, .int .u8 count, .int .u8 addr] _ _ _ 4 _ Q5.out rfl hz rfl (by unfold maxLen; omega)) (hbe.alloc hz _))
  clear hKK
  have HK : Hid (∀ W1 W2 : World, Below W1.heap.size W1 W2 → (W1.cell? ⟨w.heap.size, 0, none⟩ = some (.int .i64 code) ∧ W1.cell? ⟨w.heap.size, 1, none⟩ = some (.int .i64 addr) ∧ W0.heap.size ≤ W1.heap.size ∧ Below W0.heap.size W0 W1) → (W2.cell? ⟨w.heap.size, 0, none⟩ = some (.int .i64 code) ∧ W2.cell? ⟨w.heap.size, 1, none⟩ = some (.int .i64 addr) ∧ W0.heap.size ≤ W2.heap.size ∧ Below W0.heap.size W0 W2)) := qh (fun W1 W2 h h1 => ⟨cell_later h h1.1, cell_later h h1.2.1, Nat.le_trans h1.2.2.1 h.size, h1.2.2.2.trans (h.mono h1.2.2.1)⟩)
  have HL : Hid (∀ W1 W2 : World, Below W0.heap.size W1 W2 → (W1.cell? ⟨w.heap.size, 0, none⟩ = some (.int .i64 code) ∧ W1.cell? ⟨w.heap.size, 1, none⟩ = some (.int .i64 addr) ∧ W0.heap.size ≤ W1.heap.size ∧ Below W0.heap.size W0 W1) → (W2.cell? ⟨w.heap.size, 0, none⟩ = some (.int .i64 code) ∧ W2.cell? ⟨w.heap.size, 1, none⟩ = some (.int .i64 addr) ∧ W0.heap.size ≤ W2.heap.size ∧ Below W0.heap.size W0 W2)) := qh (fun W1 W2 h h1 => ⟨(h.cell (p := ⟨w.heap.size, 0, none⟩) hsz).trans h1.1, (h.cell (p := ⟨w.heap.size, 1, none⟩) hsz).trans h1.2.1, Nat.le_trans h1.2.2.1 h.size, h1.2.2.2.trans h⟩)
  have HA : Hid (∀ (W1 : World) (O : Obj), (W1.cell? ⟨w.heap.size, 0, none⟩ = some (.int .i64 code) ∧ W1.cell? ⟨w.heap.size, 1, none⟩ = some (.int .i64 addr) ∧ W0.heap.size ≤ W1.heap.size ∧ Below W0.heap.size W0 W1) → ((W1.alloc O).cell? ⟨w.heap.size, 0, none⟩ = some (.int .i64 code) ∧ (W1.alloc O).cell? ⟨w.heap.size, 1, none⟩ = some (.int .i64 addr) ∧ W0.heap.size ≤ (W1.alloc O).heap.size ∧ Below W0.heap.size W0 (W1.alloc O))) := qh (fun W1 O h1 => HK.out W1 _ ((Below.refl _ _).alloc (zq _) O) h1)
  have HD : Hid (∀ (W1 : World) (O : Obj), (W1.drew.cell? ⟨w.heap.size, 0, none⟩ = some (.int .i64 code) ∧ W1.drew.cell? ⟨w.heap.size, 1, none⟩ = some (.int .i64 addr) ∧ W0.heap.size ≤ W1.drew.heap.size ∧ Below W0.heap.size W0 W1.drew) → ((W1.alloc O).drew.cell? ⟨w.heap.size, 0, none⟩ = some (.int .i64 code) ∧ (W1.alloc O).drew.cell? ⟨w.heap.size, 1, none⟩ = some (.int .i64 addr) ∧ W0.heap.size ≤ (W1.alloc O).drew.heap.size ∧ Below W0.heap.size W0 (W1.alloc O).drew)) := qh (fun W1 O h1 => HA.out W1.drew O h1)
  have hS0 : (W0.drew.cell? ⟨w.heap.size, 0, none⟩ = some (.int .i64 code) ∧ W0.drew.cell? ⟨w.heap.size, 1, none⟩ = some (.int .i64 addr) ∧ W0.heap.size ≤ W0.drew.heap.size ∧ Below W0.heap.size W0 W0.drew) := ⟨hc0, hc1, zq _, drewN_below (Below.refl _ _) 1⟩
  have hcn : [Value.int .u8 code] = [Ak.b1 code.toNat].map u8v := by
    have := b1_map code.toNat (by omega)
    rwa [Int.toNat_of_nonneg hcode.1] at this
  have HO1 : Hid (∀ W1 : World, W0.heap.size ≤ W1.heap.size → (W1.alloc (.cells #[.int .u8 code] 5)).ownsRow W0.heap.size 5 1 (.slice (some ⟨W1.heap.size, 0, none⟩) 1 1) 1 ([Ak.b1 code.toNat].map u8v)) := qh (fun W1 h => own_lit u8v W1 #[.int .u8 code] _ _ _ 1 _ hcn rfl h rfl (by unfold maxLen; omega))
  have HOD : Hid ((W0.alloc (.cells #[.int .u8 code] 5)).drew.ownsRow W0.heap.size 5 1 (.slice (some ⟨W0.heap.size, 0, none⟩) 1 1) 1 ([Ak.b1 code.toNat].map u8v)) := qh (HO1.out W0 (zq _))
  have H3 : Hid ([Ak.b1 code.toNat] ++ Ak.two addr = Ak.head ⟨code, addr, count, to, words, bits, and_, or_⟩) := qh rfl
  have ha1' : addr < 65536 := by omega
  clear hcn hW0 ha ha0 hrow hbw
  go_region_held3 (fun W => (W.cell? ⟨w.heap.size, 0, none⟩ = some (.int .i64 code) ∧ W.cell? ⟨w.heap.size, 1, none⟩ = some (.int .i64 addr) ∧ W0.heap.size ≤ W.heap.size ∧ Below W0.heap.size W0 W)) (first | with_reducible assumption | with_reducible exact HD.out _ _ (by with_reducible assumption) | with_reducible exact HA.out _ _ (by with_reducible assumption) | fail) (first | (go_at_call 101; (with_reducible refine (rtwo_any addr b1 ha1' _).mono ?_); rintro e w' ⟨rfl, hl', hb'⟩; have hh := HK.out _ _ hb' (by with_reducible assumption); have hz' := hh.2.2.1; (first | have hl2 : Lies u8v w' (some ⟨W0.heap.size + 1, 0, none⟩) (Ak.two addr) := (by simpa using hl') | have hl2 : Lies u8v w' (some ⟨W0.heap.size, 0, none⟩) (Ak.two addr) := (show Lies u8v w' (some ⟨W0.drew.heap.size, 0, none⟩) (Ak.two addr) from hl') | fail)) | (refine step_append_own kit8 one8 _ (by rfl) (.tmp 10) (.tmp 13) (by rfl) W0.heap.size _ 1 [Ak.b1 code.toNat] (by rfl) (own_below HOD.out hb') _ 2 2 (Ak.two addr) (by rfl) rfl hl2 (by omega) (by unfold maxLen; omega) hz' ?_; intro A2 c2 w2 hown2 _ hb2; have hh2 := HL.out _ _ hb2 (by with_reducible assumption)) | (refine step_append_own kit8 one8 _ (by rfl) (.tmp 10) (.tmp 13) (by rfl) W0.heap.size _ 1 [Ak.b1 code.toNat] (by rfl) (HO1.out _ hz') _ 2 2 (Ak.two addr) (by rfl) rfl (hl2.alloc _) (by omega) (by unfold maxLen; omega) (by simp; omega) ?_; intro A2 c2 w2 hown2 _ hb2; have hh2 := HL.out _ _ hb2 (by with_reducible assumption)) | fail)
  all_goals (rw [H3.out] at hown2; exact REST.out _ _ _ _ _ (by with_reducible assumption) hown2)
end Go.Proofs.YtlgmjnjhdamknaaGreat
