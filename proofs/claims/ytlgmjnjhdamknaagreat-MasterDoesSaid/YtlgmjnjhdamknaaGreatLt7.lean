
/- A part of the proof of the law MasterDoes. -/
import Derived.Test.YtlgmjnjhdamknaaGreatMem
import Derived.Test.YtlgmjnjhdamknaaGreatRe7
namespace Go.Proofs.YtlgmjnjhdamknaaGreat
open Go.RowKit

set_option maxRecDepth 100000 in
set_option maxHeartbeats 1000000 in
theorem laytexts7_any (a : Ask) (h k : Option Addr × Nat × Nat) (A : Option Addr) (tn tc : Nat) (xt : List ByteArray) (an : Nat) (han : a.addr = (an : Int)) (hc0 : 0 ≤ a.count) (hc1 : a.count ≤ 255) (htn : xt.length = tn) (h0 : An.long xt ≤ 253) (hsz : ∀ s ∈ xt, s.size ≤ 245) (h256 : an + tn ≤ 256) (w : World) (hl : Lies strv w A xt) :
    Calls Tryz.prog 141 #[askV a h k, .slice A tn tc] w (LaidPost w (An.ahead a ++ (An.b1 tn :: An.laid an xt))) := by
  obtain ⟨code, addr, count, to, words, bits, and_, or_⟩ := a
  obtain rfl : addr = (an : Int) := han
  have hra := row_at w #[.int .i64 code, .int .i64 (an : Int), .int .i64 count, .int .i64 to, .slice h.1 h.2.1 h.2.2, .slice k.1 k.2.1 k.2.2, u16v and_, u16v or_] 40 w.heap.size rfl
  have hb0 : Below w.heap.size w (w.alloc (.cells #[.int .i64 code, .int .i64 (an : Int), .int .i64 count, .int .i64 to, .slice h.1 h.2.1 h.2.2, .slice k.1 k.2.1 k.2.2, u16v and_, u16v or_] 40)) := (Below.refl _ _).alloc (zq _) _
  have HAH := qh (fun w => ahead7_any ⟨code, (an : Int), count, to, words, bits, and_, or_⟩ h k hc0 hc1 w)
  rw [askV_eq] at HAH
  rw [askV_eq]
  have hl1 := hl.below hb0 (zq _)
  have HL : Hid (∀ k, (An.laid an (xt.take k)).length ≤ 253) := qh fun k => (by have h1 := An.laid_length xt an _ h0; have h2 := laid_append (xt.drop k) (xt.take k) an; rw [List.take_append_drop] at h2; unfold An.long at h0; omega)
  have ht127 : tn ≤ 127 := by
    have h1 := HL.out xt.length
    rw [List.take_length] at h1
    have h2 := laid_two xt an
    omega
  have e1 : (tn : Int) % 256 = (tn : Int) := by omega
  have hHN := qh htn
  have hSZ := qh hsz
  obtain ⟨P, hP⟩ : ∃ P, An.ahead ⟨code, (an : Int), count, to, words, bits, and_, or_⟩ = P := ⟨_, rfl⟩
  have hP5 : Hid (P.length = 5) := qh (by rw [← hP]; rfl)
  rw [hP] at HAH ⊢
  have HXL := qh hl
  clear hP hsz h0 htn hl hl1 hc0 hc1
  go_enter Tryz.func141, Tryz.ntmps141
  go_wp2_with fail
  refine (HAH.out _).mono ?_
  rintro e w1 ⟨A0, n0, c0, rfl, hn0, hown0, hb1⟩
  obtain rfl : n0 = 5 := hn0.symm.trans hP5.out
  have hbw1 := hb0.trans (hb1.mono hb0.size)
  have hra1 := row_later hra hb1
  have hlt1 : w.heap.size < w1.heap.size := row_lt hra1
  have HOA := qh (hown0.alloc (.cells #[.int .u8 (tn : Int)] 5))
  have HLA : Hid (Lies u8v (w1.alloc (.cells #[.int .u8 (tn : Int)] 5)) (some ⟨w1.heap.size, 0, none⟩) [An.b1 tn]) := qh (lies_at w1 _ _ _ _ (b1_row tn (by omega) [] [] rfl) rfl)
  have z1 : w.heap.size + 1 ≤ w1.heap.size := by have := hb1.size; simpa using this
  have HB0 : Hid (((w.alloc (.cells #[.int .i64 code, .int .i64 (an : Int), .int .i64 count, .int .i64 to, .slice h.1 h.2.1 h.2.2, .slice k.1 k.2.1 k.2.2, u16v and_, u16v or_] 40))).heap.size = w.heap.size + 1) := qh (by simp)
  rw [HB0.out] at HOA
  clear hn0 hown0
  go_wp2_with (at_builtin; go_must (refine wpList_append_lies kit8 one8 _ rfl (.tmp 9) (.tmp 13) rfl (w.heap.size + 1) _ 5 P rfl HOA.out (some ⟨w1.heap.size, 0, none⟩) 1 1 [An.b1 tn] rfl rfl HLA.out (by omega) (by unfold maxLen; omega) (by simp; omega) ?_; intro A2 c2 w2 hown2 hg2 hb2))
  have hb12 : Below (w.heap.size + 1) w1 w2 := ((Below.refl _ w1).alloc z1 _).trans hb2
  have z2 : w.heap.size + 1 ≤ w2.heap.size := Nat.le_trans z1 hb12.size
  have hbw2 : Below w.heap.size w w2 := hbw1.trans (hb12.mono (Nat.le_succ _))
  have hra2 : w2.heap[w.heap.size]? = some (.cells #[.int .i64 code, .int .i64 (an : Int), .int .i64 count, .int .i64 to, .slice h.1 h.2.1 h.2.2, .slice k.1 k.2.1 k.2.2, u16v and_, u16v or_] 40 (0, 0)) := (hb12.block _ (Nat.lt_succ_self _)).trans hra1
  have HHD : Hid ((An.ahead0 P tn).length = 6) := qh (by unfold An.ahead0; rw [List.length_append, hP5.out]; rfl)
  clear hb0 hra hra1 hb1 hg2 hb2 hbw1 hb12 HOA HLA HAH
  go_wp2_with fail
  go_loopw [5, 17] (fun out i wr => ∃ (j : Nat) (A : Option Addr) (n c : Nat), j ≤ tn ∧ i = .int .i64 j ∧ out = .slice A n c ∧ Hid (6 + (An.laid an (xt.take j)).length = n) ∧ wr.ownsRow (w.heap.size + 1) 5 1 (.slice A n c) n ((An.ahead0 P tn ++ An.laid an (xt.take j)).map u8v) ∧ Below (w.heap.size + 1) w2 wr) (fun _ i _ => tn - (intOf i).toNat)
  case atStart =>
    refine ⟨0, A2, 6, c2, Nat.zero_le _, rfl, rfl, qh (by simp [An.laid]), ?_, Below.refl _ _⟩
    simp only [List.take_zero, An.laid, List.append_nil, An.ahead0]
    exact hown2
  case round =>
    obtain ⟨j, A3, n3, c3, hj, rfl, rfl, HN, hown3, hbe⟩ := hrel
    have z3 := hbe.size
    have hbw3 : Below w.heap.size w wr := hbw2.trans (hbe.mono (Nat.le_succ _))
    have hra3 : wr.heap[w.heap.size]? = some (.cells #[.int .i64 code, .int .i64 (an : Int), .int .i64 count, .int .i64 to, .slice h.1 h.2.1 h.2.2, .slice k.1 k.2.1 k.2.2, u16v and_, u16v or_] 40 (0, 0)) := (hbe.block _ (Nat.lt_succ_self _)).trans hra2
    have hlt3 : w.heap.size < wr.heap.size := by omega
    by_cases hjt : j < tn
    · have hj1 : j < xt.length := by rw [hHN.out]; exact hjt
      obtain ⟨tb, to_, rfl, hc1⟩ := (HXL.out.below hbw3 (zq _)) j hj1
      have hc1 : wr.cell? ⟨tb, to_ + j, none⟩ = some (strv xt[j]) := hc1
      have hs1 := hSZ.out _ (List.getElem_mem hj1)
      have HS := qh (laid_step hj1 an)
      have HL1 := HL.out (j + 1)
      have HLJ := HL.out j
      generalize xt[j] = s at *
      have i1 : (j : Int) < (tn : Int) := by omega
      obtain ⟨-, r1, -⟩ := row_eight hra3
      have e4 : ((an : Int) + (j : Int)) % 256 = (an : Int) + (j : Int) := by omega
      have e5 : (an : Int) + (j : Int) ≤ 256 := by omega
      have HN3 : n3 ≤ 259 := by have := HN.out; omega
      have HO3 := qh (fun o => hown3.alloc o)
      have HLB : Hid (Lies u8v (wr.alloc (.cells #[.int .u8 ((an : Int) + (j : Int))] 5)) (some ⟨wr.heap.size, 0, none⟩) [An.b1 (an + j)]) := qh (lies_at wr _ _ _ _ (by have := b1_row (an + j) (by omega) [] [] rfl; rw [Int.natCast_add] at this; exact this) rfl)
      have HSL : Hid (s.data.toList.length = s.size) := qh (by rw [Array.length_toList]; rfl)
      have HEQ : Hid (((An.ahead0 P tn ++ An.laid an (xt.take j)) ++ [An.b1 (an + j)]) ++ (An.b1 s.size :: s.data.toList) = An.ahead0 P tn ++ An.laid an (xt.take (j + 1))) := qh (by rw [HS.out]; simp)
      have HNN : Hid (6 + (An.laid an (xt.take (j + 1))).length = n3 + 1 + (1 + s.size)) := qh (by rw [HS.out, List.length_append, List.length_cons, List.length_cons, HSL.out]; have := HN.out; omega)
      clear hown3 HL1 HLJ
      go_wp2_with (at_builtin; go_must (refine wpList_append_lies kit8 one8 _ rfl (.tmp 22) (.tmp 28) rfl (w.heap.size + 1) _ n3 _ rfl (HO3.out _) (some ⟨wr.heap.size, 0, none⟩) 1 1 [An.b1 (an + j)] rfl rfl HLB.out (by omega) (by unfold maxLen; omega) (by simp; omega) ?_; intro A4 c4 w4 hown4 hg4 hb4))
      have hb34 : Below (w.heap.size + 1) wr w4 := ((Below.refl _ wr).alloc (by omega) _).trans hb4
      have z4 : w.heap.size + 1 ≤ w4.heap.size := by have := hb34.size; omega
      refine upon_conv w4 9 41 5 s (by rfl) (by rfl) (by rfl) (by omega) ?_
      intro c5 w5 hc5 hm5 hl5 hb5 hz5
      have z5 : w.heap.size + 1 ≤ w5.heap.size := by omega
      have HC := qh (counted7_any (some ⟨w4.heap.size, 0, none⟩) s.size c5 s.data.toList HSL.out (by omega) w5 hl5)
      clear hl5 hz5
      go_wp2_with fail
      refine HC.out.mono ?_
      rintro e w6 ⟨A6, n6, c6, rfl, hn6, hown6, hb6⟩
      obtain rfl : n6 = 1 + s.size := by have h1 := HSL.out; rw [List.length_cons, h1] at hn6; omega
      have hbe6 : Below (w.heap.size + 1) w4 w6 := (hb5.mono z4).trans (hb6.mono z5)
      have hown4 := own_below (own_below hown4 hb5) hb6
      obtain ⟨-, -, -, hl6⟩ := own_at hown6
      have z6 : w.heap.size + 1 ≤ w6.heap.size := by have := hbe6.size; omega
      clear hown6 hn6
      go_wp2_with (at_builtin; go_must (refine wpList_append_lies kit8 one8 _ rfl (.tmp 30) (.tmp 33) rfl (w.heap.size + 1) _ (n3 + 1) _ rfl hown4 A6 (1 + s.size) c6 (An.b1 s.size :: s.data.toList) rfl (by rw [List.length_cons, HSL.out]; omega) hl6 (by omega) (by unfold maxLen; omega) z6 ?_; intro A7 c7 w7 hown7 hg7 hb7))
      go_roundw
      case rel => exact ⟨j + 1, A7, n3 + 1 + (1 + s.size), c7, by omega, by go_num, rfl, HNN, by rw [← HEQ.out]; exact hown7, ((hbe.trans hb34).trans hbe6).trans hb7⟩
      case measure => simp [intOf]; omega
    · obtain rfl : j = tn := by omega
      have HTK : Hid (xt.take j = xt) := qh (by rw [← hHN.out, List.take_length])
      rw [HTK.out] at hown3 HN
      have i1 : ¬ (j : Int) < (j : Int) := by omega
      have HR : Hid (LaidPost w (P ++ (An.b1 j :: An.laid an xt)) (.returned (.slice A3 n3 c3)) wr) := qh ⟨A3, n3, c3, rfl, by have := HN.out; rw [List.length_append, List.length_cons, hP5.out]; omega, by have h1 := own_lower hown3 (Nat.le_succ w.heap.size); unfold An.ahead0 at h1; rw [List.append_assoc] at h1; exact h1, hbw3⟩
      clear hown3 HN
      go_wp2_with fail
      go_ret
      exact HR.out
end Go.Proofs.YtlgmjnjhdamknaaGreat

namespace Go.Proofs.YtlgmjnjhdamknaaGreat
open Go.RowKit

set_option maxRecDepth 100000 in
set_option maxHeartbeats 1000000 in
theorem body7_1 (addr count to : Int) (words : List UInt16) (bits : List Bool) (and_ or_ : UInt16) (h k : Hd) (l : List Bool) (hx kx tx : Hd) (w : World) (ha : AskIn w ⟨1, addr, count, to, words, bits, and_, or_⟩ h k) (hi : AnsIn w ⟨0, l, [], []⟩ hx kx tx) (hm : l.length ≤ 2000) :
    Calls Tryz.prog 96 #[askV ⟨1, addr, count, to, words, bits, and_, or_⟩ h k, ansV ⟨0, l, [], []⟩ hx kx tx] w (AnTextPost w (An.b1 (Word.pack l).length :: Word.pack l)) := by
  obtain ⟨hra, hrx, hb0, hlt1, hlt0⟩ := two_new7 w #[.int .i64 1, .int .i64 addr, .int .i64 count, .int .i64 to, .slice h.1 h.2.1 h.2.2, .slice k.1 k.2.1 k.2.2, u16v and_, u16v or_] #[.int .i64 0, .slice hx.1 hx.2.1 hx.2.2, .slice kx.1 kx.2.1 kx.2.2, .slice tx.1 tx.2.1 tx.2.2] 40 46
  have HI := qh (hi.below hb0)
  have HAI := qh (ha.below hb0)
  have hn : l.length = hx.2.1 := hi.hn
  have HN : Hid ((Word.pack l).length = (hx.2.1 + 7) / 8) := qh (by rw [Word.pack_length, hn])
  have HP := qh (pack_any hx.1 hx.2.1 hx.2.2 l hn hi.hc (by omega) _ HI.out.hl)
  have h255 : (hx.2.1 + 7) / 8 ≤ 255 := by omega
  clear ha hi hn hm
  rw [askV_eq, ansV_eq]
  go_enter Tryz.func96, Tryz.ntmps96
  obtain ⟨r0, r1, r2, r3, r4, r5, r6, r7⟩ := row_eight hra
  obtain ⟨x0, x1, x2, x3⟩ := row_quad hrx
  go_wp2_with fail
  refine HP.out.mono ?_
  rintro e w2 ⟨A2, c2, rfl, g1, g2, g3, hb2, -⟩
  have hbw2 := hb0.trans (hb2.mono hb0.size)
  have HC := qh (counted7_any A2 ((hx.2.1 + 7) / 8) c2 (Word.pack l) HN.out h255 w2 g3)
  obtain ⟨L, hL⟩ : ∃ L, (hx.2.1 + 7) / 8 = L := ⟨_, rfl⟩
  rw [hL] at HC HN ⊢
  clear hL h255 HP g1 g2 g3
  go_wp2_with fail
  refine HC.out.mono ?_
  rintro e w3 ⟨A3, n3, c3, rfl, hn3, hown3, hb3⟩
  have HR : Hid (AnTextPost w (An.b1 (Word.pack l).length :: Word.pack l) (.returned (.slice A3 n3 c3)) w3) := qh (by rw [HN.out]; exact (LaidPost.text ⟨A3, n3, c3, rfl, hn3, own_lower hown3 hbw2.size, hbw2.trans (hb3.mono hbw2.size)⟩))
  clear hn3 hown3
  go_wp2_with fail
  go_ret
  exact HR.out

set_option maxRecDepth 100000 in
set_option maxHeartbeats 1000000 in
theorem body7_2 (addr count to : Int) (words : List UInt16) (bits : List Bool) (and_ or_ : UInt16) (h k : Hd) (l : List Bool) (hx kx tx : Hd) (w : World) (ha : AskIn w ⟨2, addr, count, to, words, bits, and_, or_⟩ h k) (hi : AnsIn w ⟨0, l, [], []⟩ hx kx tx) (hm : l.length ≤ 2000) :
    Calls Tryz.prog 96 #[askV ⟨2, addr, count, to, words, bits, and_, or_⟩ h k, ansV ⟨0, l, [], []⟩ hx kx tx] w (AnTextPost w (An.b1 (Word.pack l).length :: Word.pack l)) := by
  obtain ⟨hra, hrx, hb0, hlt1, hlt0⟩ := two_new7 w #[.int .i64 2, .int .i64 addr, .int .i64 count, .int .i64 to, .slice h.1 h.2.1 h.2.2, .slice k.1 k.2.1 k.2.2, u16v and_, u16v or_] #[.int .i64 0, .slice hx.1 hx.2.1 hx.2.2, .slice kx.1 kx.2.1 kx.2.2, .slice tx.1 tx.2.1 tx.2.2] 40 46
  have HI := qh (hi.below hb0)
  have HAI := qh (ha.below hb0)
  have hn : l.length = hx.2.1 := hi.hn
  have HN : Hid ((Word.pack l).length = (hx.2.1 + 7) / 8) := qh (by rw [Word.pack_length, hn])
  have HP := qh (pack_any hx.1 hx.2.1 hx.2.2 l hn hi.hc (by omega) _ HI.out.hl)
  have h255 : (hx.2.1 + 7) / 8 ≤ 255 := by omega
  clear ha hi hn hm
  rw [askV_eq, ansV_eq]
  go_enter Tryz.func96, Tryz.ntmps96
  obtain ⟨r0, r1, r2, r3, r4, r5, r6, r7⟩ := row_eight hra
  obtain ⟨x0, x1, x2, x3⟩ := row_quad hrx
  go_wp2_with fail
  refine HP.out.mono ?_
  rintro e w2 ⟨A2, c2, rfl, g1, g2, g3, hb2, -⟩
  have hbw2 := hb0.trans (hb2.mono hb0.size)
  have HC := qh (counted7_any A2 ((hx.2.1 + 7) / 8) c2 (Word.pack l) HN.out h255 w2 g3)
  obtain ⟨L, hL⟩ : ∃ L, (hx.2.1 + 7) / 8 = L := ⟨_, rfl⟩
  rw [hL] at HC HN ⊢
  clear hL h255 HP g1 g2 g3
  go_wp2_with fail
  refine HC.out.mono ?_
  rintro e w3 ⟨A3, n3, c3, rfl, hn3, hown3, hb3⟩
  have HR : Hid (AnTextPost w (An.b1 (Word.pack l).length :: Word.pack l) (.returned (.slice A3 n3 c3)) w3) := qh (by rw [HN.out]; exact (LaidPost.text ⟨A3, n3, c3, rfl, hn3, own_lower hown3 hbw2.size, hbw2.trans (hb3.mono hbw2.size)⟩))
  clear hn3 hown3
  go_wp2_with fail
  go_ret
  exact HR.out

set_option maxRecDepth 100000 in
set_option maxHeartbeats 1000000 in
theorem body7_3 (code : Int) (hcode : code = 3 ∨ code = 4 ∨ code = 23) (addr count to : Int) (words : List UInt16) (bits : List Bool) (and_ or_ : UInt16) (h k : Hd) (l : List UInt16) (hx kx tx : Hd) (w : World) (ha : AskIn w ⟨code, addr, count, to, words, bits, and_, or_⟩ h k) (hi : AnsIn w ⟨0, [], l, []⟩ hx kx tx) (hm : l.length ≤ 125) :
    Calls Tryz.prog 96 #[askV ⟨code, addr, count, to, words, bits, and_, or_⟩ h k, ansV ⟨0, [], l, []⟩ hx kx tx] w (AnTextPost w (An.b1 (Word.bytes l).length :: Word.bytes l)) := by
  obtain ⟨hra, hrx, hb0, hlt1, hlt0⟩ := two_new7 w #[.int .i64 code, .int .i64 addr, .int .i64 count, .int .i64 to, .slice h.1 h.2.1 h.2.2, .slice k.1 k.2.1 k.2.2, u16v and_, u16v or_] #[.int .i64 0, .slice hx.1 hx.2.1 hx.2.2, .slice kx.1 kx.2.1 kx.2.2, .slice tx.1 tx.2.1 tx.2.2] 40 46
  have HI := qh (hi.below hb0)
  have HAI := qh (ha.below hb0)
  have hn : l.length = kx.2.1 := hi.kn
  have HN : Hid ((Word.bytes l).length = 2 * kx.2.1) := qh (by rw [Word.bytes_length, hn])
  have HP := qh (bytes_any kx.1 kx.2.1 kx.2.2 l hn (by omega) _ HI.out.kl)
  have h255 : 2 * kx.2.1 ≤ 255 := by omega
  clear ha hi hn hm
  rw [askV_eq, ansV_eq]
  rcases hcode with rfl | rfl | rfl
  all_goals
    go_enter Tryz.func96, Tryz.ntmps96
    obtain ⟨r0, r1, r2, r3, r4, r5, r6, r7⟩ := row_eight hra
    obtain ⟨x0, x1, x2, x3⟩ := row_quad hrx
    go_wp2_with fail
    refine HP.out.mono ?_
    rintro e w2 ⟨A2, c2, rfl, g1, g2, g3, hb2, -⟩
    have hbw2 := hb0.trans (hb2.mono hb0.size)
    have HC := qh (counted7_any A2 (2 * kx.2.1) c2 (Word.bytes l) HN.out h255 w2 g3)
    obtain ⟨L, hL⟩ : ∃ L, 2 * kx.2.1 = L := ⟨_, rfl⟩
    rw [hL] at HC HN ⊢
    clear hL h255 HP g1 g2 g3
    go_wp2_with fail
    refine HC.out.mono ?_
    rintro e w3 ⟨A3, n3, c3, rfl, hn3, hown3, hb3⟩
    have HR : Hid (AnTextPost w (An.b1 (Word.bytes l).length :: Word.bytes l) (.returned (.slice A3 n3 c3)) w3) := qh (by rw [HN.out]; exact (LaidPost.text ⟨A3, n3, c3, rfl, hn3, own_lower hown3 hbw2.size, hbw2.trans (hb3.mono hbw2.size)⟩))
    clear hn3 hown3
    go_wp2_with fail
    go_ret
    exact HR.out

set_option maxRecDepth 100000 in
set_option maxHeartbeats 1000000 in
theorem body7_43 (addr count to : Int) (words : List UInt16) (bits : List Bool) (and_ or_ : UInt16) (h k : Hd) (l : List ByteArray) (hx kx tx : Hd) (w : World) (ha : AskIn w ⟨43, addr, count, to, words, bits, and_, or_⟩ h k) (hi : AnsIn w ⟨0, [], [], l⟩ hx kx tx) (hc0 : 0 ≤ count) (hc1 : count ≤ 255) (ha0 : 0 ≤ addr) (h0 : An.long l ≤ 253) (hsz : ∀ s ∈ l, s.size ≤ 245) (h256 : addr + l.length ≤ 256) :
    Calls Tryz.prog 96 #[askV ⟨43, addr, count, to, words, bits, and_, or_⟩ h k, ansV ⟨0, [], [], l⟩ hx kx tx] w (AnTextPost w (An.ahead ⟨43, addr, count, to, words, bits, and_, or_⟩ ++ (An.b1 tx.2.1 :: An.laid addr.toNat l))) := by
  obtain ⟨hra, hrx, hb0, hlt1, hlt0⟩ := two_new7 w #[.int .i64 43, .int .i64 addr, .int .i64 count, .int .i64 to, .slice h.1 h.2.1 h.2.2, .slice k.1 k.2.1 k.2.2, u16v and_, u16v or_] #[.int .i64 0, .slice hx.1 hx.2.1 hx.2.2, .slice kx.1 kx.2.1 kx.2.2, .slice tx.1 tx.2.1 tx.2.2] 40 46
  have HI := qh (hi.below hb0)
  have HAI := qh (ha.below hb0)
  have htn : l.length = tx.2.1 := hi.tn
  have HC := qh (fun W hl => (laytexts7_any ⟨43, addr, count, to, words, bits, and_, or_⟩ h k tx.1 tx.2.1 tx.2.2 l addr.toNat (by dsimp only; omega) hc0 hc1 htn h0 hsz (by omega) W hl).mono fun _ _ => LaidPost.text)
  rw [← htn] at HC
  replace HC := qh (HC.out _ HI.out.tl)
  rw [htn] at HC
  clear htn h0 hsz h256 hc0 hc1 ha0
  rw [askV_eq] at HC
  clear ha hi
  rw [askV_eq, ansV_eq]
  go_enter Tryz.func96, Tryz.ntmps96
  obtain ⟨r0, r1, r2, r3, r4, r5, r6, r7⟩ := row_eight hra
  obtain ⟨x0, x1, x2, x3⟩ := row_quad hrx
  go_wp2_with fail
  refine HC.out.mono ?_
  intro e w2 hp
  obtain ⟨A2, n2, c2, rfl, g1, g2, g3, g4, hb2⟩ := hp
  have HR : Hid (AnTextPost w _ (.returned (.slice A2 n2 c2)) w2) := qh ⟨A2, n2, c2, rfl, g1, g2, g3, g4, hb0.trans (hb2.mono hb0.size)⟩
  clear g1 g2 g3 g4
  go_wp2_with fail
  go_ret
  exact HR.out

set_option maxRecDepth 100000 in
set_option maxHeartbeats 1000000 in
theorem body7_5 (code : Int) (hcode : code = 5 ∨ code = 6 ∨ code = 22 ∨ code = 15 ∨ code = 16) (addr count to : Int) (words : List UInt16) (bits : List Bool) (and_ or_ : UInt16) (h k : Hd)  (hx kx tx : Hd) (w : World) (ha : AskIn w ⟨code, addr, count, to, words, bits, and_, or_⟩ h k) (hi : AnsIn w An.zero hx kx tx) (hr : Ak.right ⟨code, addr, count, to, words, bits, and_, or_⟩ = true) :
    Calls Tryz.prog 96 #[askV ⟨code, addr, count, to, words, bits, and_, or_⟩ h k, ansV An.zero hx kx tx] w (AnTextPost w (An.echo ⟨code, addr, count, to, words, bits, and_, or_⟩)) := by
  obtain ⟨hra, hrx, hb0, hlt1, hlt0⟩ := two_new7 w #[.int .i64 code, .int .i64 addr, .int .i64 count, .int .i64 to, .slice h.1 h.2.1 h.2.2, .slice k.1 k.2.1 k.2.2, u16v and_, u16v or_] #[.int .i64 0, .slice hx.1 hx.2.1 hx.2.2, .slice kx.1 kx.2.1 kx.2.2, .slice tx.1 tx.2.1 tx.2.2] 40 46
  have HI := qh (hi.below hb0)
  have HAI := qh (ha.below hb0)
  have HC := qh (echo7_any ⟨code, addr, count, to, words, bits, and_, or_⟩ h k _ HAI.out hr (by rcases hcode with rfl | rfl | rfl | rfl | rfl <;> simp))
  rw [askV_eq] at HC
  clear ha hi
  rw [askV_eq, ansV_eq]
  rcases hcode with rfl | rfl | rfl | rfl | rfl
  all_goals
    go_enter Tryz.func96, Tryz.ntmps96
    obtain ⟨r0, r1, r2, r3, r4, r5, r6, r7⟩ := row_eight hra
    obtain ⟨x0, x1, x2, x3⟩ := row_quad hrx
    go_wp2_with fail
    refine HC.out.mono ?_
    intro e w2 hp
    obtain ⟨A2, n2, c2, rfl, g1, g2, g3, g4, hb2⟩ := hp
    have HR : Hid (AnTextPost w _ (.returned (.slice A2 n2 c2)) w2) := qh ⟨A2, n2, c2, rfl, g1, g2, g3, g4, hb0.trans (hb2.mono hb0.size)⟩
    clear g1 g2 g3 g4
    go_wp2_with fail
    go_ret
    exact HR.out

theorem ahead_rest {a : Ask} {l : List ByteArray} (hc : a.code = 43) : An.text a ⟨0, [], [], l⟩ = An.b1 a.code.toNat :: (An.ahead a ++ (An.b1 l.length :: An.laid a.addr.toNat l)) := by
  unfold An.text
  rw [if_neg (by dsimp only; omega), if_neg (by omega), if_neg (by omega), if_neg (by omega), if_neg (by omega), hc]
  simp [An.ahead, An.b1]
theorem body7_any (a : Ask) (x : Ans) (h k hx kx tx : Hd) (w : World) (ha : AskIn w a h k) (hi : AnsIn w x hx kx tx) (hr : Ak.right a = true) (hs : An.Shape a x) (h0 : x.exc = 0) :
    ∃ r, An.text a x = An.b1 a.code.toNat :: r ∧ Calls Tryz.prog 96 #[askV a h k, ansV x hx kx tx] w (AnTextPost w r) := by
  obtain ⟨hc0, hc1⟩ := An.code_lt (An.ak_right hr).1
  have hsh := Ak.shape (An.ak_right hr).1
  cases hs with
  | exc n h1 h2 => dsimp only at h0; omega
  | bits l hc hl h1 =>
    refine ⟨An.b1 (Word.pack l).length :: Word.pack l, by unfold An.text; rw [if_neg (by dsimp only; omega), if_pos hc], ?_⟩
    obtain ⟨code, addr, count, to, words, bits, and_, or_⟩ := a
    rcases hc with hc | hc
    · obtain rfl : code = 1 := hc
      exact body7_1 addr count to words bits and_ or_ h k l hx kx tx w ha hi h1
    · obtain rfl : code = 2 := hc
      exact body7_2 addr count to words bits and_ or_ h k l hx kx tx w ha hi h1
  | words l hc hl h1 =>
    refine ⟨An.b1 (Word.bytes l).length :: Word.bytes l, by unfold An.text; rw [if_neg (by dsimp only; omega), if_neg (by omega), if_pos hc], ?_⟩
    obtain ⟨code, addr, count, to, words, bits, and_, or_⟩ := a
    rcases hc with hc | hc | hc
    · obtain rfl : code = 3 := hc
      exact body7_3 3 (.inl rfl) addr count to words bits and_ or_ h k l hx kx tx w ha hi h1
    · obtain rfl : code = 4 := hc
      exact body7_3 4 (.inr (.inl rfl)) addr count to words bits and_ or_ h k l hx kx tx w ha hi h1
    · obtain rfl : code = 23 := hc
      exact body7_3 23 (.inr (.inr (rfl))) addr count to words bits and_ or_ h k l hx kx tx w ha hi h1
  | back hc =>
    refine ⟨An.echo a, An.text_echo hr hc, ?_⟩
    obtain ⟨code, addr, count, to, words, bits, and_, or_⟩ := a
    rcases hc with hc | hc | hc | hc | hc
    · obtain rfl : code = 5 := hc
      exact body7_5 5 (.inl rfl) addr count to words bits and_ or_ h k hx kx tx w ha hi hr
    · obtain rfl : code = 6 := hc
      exact body7_5 6 (.inr (.inl rfl)) addr count to words bits and_ or_ h k hx kx tx w ha hi hr
    · obtain rfl : code = 22 := hc
      exact body7_5 22 (.inr (.inr (.inl rfl))) addr count to words bits and_ or_ h k hx kx tx w ha hi hr
    · obtain rfl : code = 15 := hc
      exact body7_5 15 (.inr (.inr (.inr (.inl rfl)))) addr count to words bits and_ or_ h k hx kx tx w ha hi hr
    · obtain rfl : code = 16 := hc
      exact body7_5 16 (.inr (.inr (.inr (.inr (rfl))))) addr count to words bits and_ or_ h k hx kx tx w ha hi hr
  | texts l hc h1 hsz h2 h3 =>
    refine ⟨_, ahead_rest hc, ?_⟩
    have htn : l.length = tx.2.1 := hi.tn
    rw [htn]
    cases hsh with
    | ident addr n g0 g1 n0 n1 => exact body7_43 addr n 0 [] [] 0 0 h k l hx kx tx w ha hi (by omega) (by omega) (by omega) h2 hsz h3
    | count c addr n hc' g0 g1 n0 n1 => dsimp only at hc; omega
    | _ => dsimp only at hc; omega

end Go.Proofs.YtlgmjnjhdamknaaGreat

namespace Go.Proofs.YtlgmjnjhdamknaaGreat
open Go.RowKit

set_option maxRecDepth 100000 in
set_option maxHeartbeats 1000000 in
theorem lay7E_any (a : Ask) (n : Int) (h k hx kx tx : Hd) (w : World) (hc0 : 1 ≤ a.code) (hc1 : a.code ≤ 43) (h0 : 1 ≤ n) (h1 : n ≤ 255) :
    Calls Tryz.prog 50 #[askV a h k, ansV ⟨n, [], [], []⟩ hx kx tx] w (AnTextPost w [An.b1 (128 + a.code.toNat), An.b1 n.toNat]) := by
  have e1 : IntKind.i64.wrap (128 + a.code) = 128 + a.code := by rw [IntKind.wrap_i64]; omega
  have e2 : (128 + a.code) % 256 = 128 + a.code := by omega
  have e3 : n % 256 = n := by omega
  have i0 : (n != 0) = true := by rw [bne_iff_ne]; omega
  obtain ⟨c, hc⟩ := Int.eq_ofNat_of_zero_le (show 0 ≤ a.code by omega)
  obtain ⟨m, rfl⟩ := Int.eq_ofNat_of_zero_le (show 0 ≤ n by omega)
  have hl : Hid (([.int .u8 (128 + a.code), .int .u8 (m : Int)] : List Value) = ([An.b1 (128 + a.code.toNat), An.b1 (m : Int).toNat] : List UInt8).map u8v) := qh (by
    simp only [List.map_cons, List.map_nil, An.b1]
    rw [u8_ofNat _ (by omega), u8_ofNat _ (by omega), hc]
    simp)
  clear hc
  rw [askV_eq, ansV_eq]
  go_enter Tryz.func50, Tryz.ntmps50
  go_wp2_with fail
  go_ret
  exact ⟨some ⟨w.heap.size + 1 + 1, 0, none⟩, 2, 2, rfl, rfl, zq _, by unfold maxLen; omega, lies_at _ _ _ _ _ hl.out (by simp), (((Below.refl _ w).alloc (zq _) _).alloc (by simp) _).alloc (by simp; omega) _⟩

set_option maxRecDepth 100000 in
set_option maxHeartbeats 1000000 in
theorem lay7B_any (cn : Nat) (addr count to : Int) (words : List UInt16) (bits : List Bool) (and_ or_ : UInt16) (xb : List Bool) (xw : List UInt16) (xt : List ByteArray) (h k hx kx tx : Hd) (w : World) (hcn : cn ≤ 43) (ha : AskIn w ⟨(cn : Int), addr, count, to, words, bits, and_, or_⟩ h k) (hi : AnsIn w ⟨0, xb, xw, xt⟩ hx kx tx) (r : List UInt8) (hrl : r.length ≤ 300)
    (hB : ∀ W, AskIn W ⟨(cn : Int), addr, count, to, words, bits, and_, or_⟩ h k → AnsIn W ⟨0, xb, xw, xt⟩ hx kx tx → Calls Tryz.prog 96 #[askV ⟨(cn : Int), addr, count, to, words, bits, and_, or_⟩ h k, ansV ⟨0, xb, xw, xt⟩ hx kx tx] W (AnTextPost W r)) :
    Calls Tryz.prog 50 #[askV ⟨(cn : Int), addr, count, to, words, bits, and_, or_⟩ h k, ansV ⟨0, xb, xw, xt⟩ hx kx tx] w (AnTextPost w (An.b1 cn :: r)) := by
  obtain ⟨hra, hrx, hb0, hlt1, hlt0⟩ := two_new7 w #[.int .i64 (cn : Int), .int .i64 addr, .int .i64 count, .int .i64 to, .slice h.1 h.2.1 h.2.2, .slice k.1 k.2.1 k.2.2, u16v and_, u16v or_] #[.int .i64 0, .slice hx.1 hx.2.1 hx.2.2, .slice kx.1 kx.2.1 kx.2.2, .slice tx.1 tx.2.1 tx.2.2] 40 46
  rw [askV_eq, ansV_eq] at hB
  have HB : Hid (∀ X, Below (((w.alloc (.cells #[.int .i64 (cn : Int), .int .i64 addr, .int .i64 count, .int .i64 to, .slice h.1 h.2.1 h.2.2, .slice k.1 k.2.1 k.2.2, u16v and_, u16v or_] 40)).alloc (.cells #[.int .i64 0, .slice hx.1 hx.2.1 hx.2.2, .slice kx.1 kx.2.1 kx.2.2, .slice tx.1 tx.2.1 tx.2.2] 46))).heap.size ((w.alloc (.cells #[.int .i64 (cn : Int), .int .i64 addr, .int .i64 count, .int .i64 to, .slice h.1 h.2.1 h.2.2, .slice k.1 k.2.1 k.2.2, u16v and_, u16v or_] 40)).alloc (.cells #[.int .i64 0, .slice hx.1 hx.2.1 hx.2.2, .slice kx.1 kx.2.1 kx.2.2, .slice tx.1 tx.2.1 tx.2.2] 46)) X → Calls Tryz.prog 96 #[.agg #[.int .i64 (cn : Int), .int .i64 addr, .int .i64 count, .int .i64 to, .slice h.1 h.2.1 h.2.2, .slice k.1 k.2.1 k.2.2, u16v and_, u16v or_], .agg #[.int .i64 0, .slice hx.1 hx.2.1 hx.2.2, .slice kx.1 kx.2.1 kx.2.2, .slice tx.1 tx.2.1 tx.2.2]] X (AnTextPost X r)) := qh fun X hX => hB X ((ha.below hb0).below hX) ((hi.below hb0).below hX)
  have HS : Hid (∀ X, Below (((w.alloc (.cells #[.int .i64 (cn : Int), .int .i64 addr, .int .i64 count, .int .i64 to, .slice h.1 h.2.1 h.2.2, .slice k.1 k.2.1 k.2.2, u16v and_, u16v or_] 40)).alloc (.cells #[.int .i64 0, .slice hx.1 hx.2.1 hx.2.2, .slice kx.1 kx.2.1 kx.2.2, .slice tx.1 tx.2.1 tx.2.2] 46))).heap.size ((w.alloc (.cells #[.int .i64 (cn : Int), .int .i64 addr, .int .i64 count, .int .i64 to, .slice h.1 h.2.1 h.2.2, .slice k.1 k.2.1 k.2.2, u16v and_, u16v or_] 40)).alloc (.cells #[.int .i64 0, .slice hx.1 hx.2.1 hx.2.2, .slice kx.1 kx.2.1 kx.2.2, .slice tx.1 tx.2.1 tx.2.2] 46)) X → (X.cell? ⟨w.heap.size, 0, none⟩ = some (.int .i64 (cn : Int)) ∧ X.cell? ⟨w.heap.size, 1, none⟩ = some (.int .i64 addr) ∧ X.cell? ⟨w.heap.size, 2, none⟩ = some (.int .i64 count) ∧ X.cell? ⟨w.heap.size, 3, none⟩ = some (.int .i64 to) ∧ X.cell? ⟨w.heap.size, 4, none⟩ = some (.slice h.1 h.2.1 h.2.2) ∧ X.cell? ⟨w.heap.size, 5, none⟩ = some (.slice k.1 k.2.1 k.2.2) ∧ X.cell? ⟨w.heap.size, 6, none⟩ = some (u16v and_) ∧ X.cell? ⟨w.heap.size, 7, none⟩ = some (u16v or_) ∧ X.cell? ⟨w.heap.size + 1, 0, none⟩ = some (.int .i64 0) ∧ X.cell? ⟨w.heap.size + 1, 1, none⟩ = some (.slice hx.1 hx.2.1 hx.2.2) ∧ X.cell? ⟨w.heap.size + 1, 2, none⟩ = some (.slice kx.1 kx.2.1 kx.2.2) ∧ X.cell? ⟨w.heap.size + 1, 3, none⟩ = some (.slice tx.1 tx.2.1 tx.2.2) ∧ Below (((w.alloc (.cells #[.int .i64 (cn : Int), .int .i64 addr, .int .i64 count, .int .i64 to, .slice h.1 h.2.1 h.2.2, .slice k.1 k.2.1 k.2.2, u16v and_, u16v or_] 40)).alloc (.cells #[.int .i64 0, .slice hx.1 hx.2.1 hx.2.2, .slice kx.1 kx.2.1 kx.2.2, .slice tx.1 tx.2.1 tx.2.2] 46))).heap.size ((w.alloc (.cells #[.int .i64 (cn : Int), .int .i64 addr, .int .i64 count, .int .i64 to, .slice h.1 h.2.1 h.2.2, .slice k.1 k.2.1 k.2.2, u16v and_, u16v or_] 40)).alloc (.cells #[.int .i64 0, .slice hx.1 hx.2.1 hx.2.2, .slice kx.1 kx.2.1 kx.2.2, .slice tx.1 tx.2.1 tx.2.2] 46)) X)) := qh fun X hX => by
    obtain ⟨r0, r1, r2, r3, r4, r5, r6, r7⟩ := row_eight (row_later hra hX)
    obtain ⟨x0, x1, x2, x3⟩ := row_quad (row_later hrx hX)
    exact ⟨r0, r1, r2, r3, r4, r5, r6, r7, x0, x1, x2, x3, hX⟩
  have HRL := qh hrl
  rw [askV_eq, ansV_eq]
  clear ha hi hB hrl
  have ec : (cn : Int) % 256 = (cn : Int) := by omega
  have HLIT : Hid ([.int .u8 (IntKind.u8.wrap (cn : Int))] = ([An.b1 cn] : List UInt8).map u8v) := qh (by rw [IntKind.wrap_u8, ec]; exact b1_row cn (by omega) [] [] rfl)
  have hHS := HS.out _ (Below.refl _ _)
  go_enter Tryz.func50, Tryz.ntmps50
  obtain ⟨r0, -⟩ := row_eight hra
  obtain ⟨x0, -⟩ := row_quad hrx
  clear hra hrx
  go_wp2_with fail
  generalize ((w.alloc (.cells #[.int .i64 (cn : Int), .int .i64 addr, .int .i64 count, .int .i64 to, .slice h.1 h.2.1 h.2.2, .slice k.1 k.2.1 k.2.2, u16v and_, u16v or_] 40)).alloc (.cells #[.int .i64 0, .slice hx.1 hx.2.1 hx.2.2, .slice kx.1 kx.2.1 kx.2.2, .slice tx.1 tx.2.1 tx.2.2] 46)) = W at *
  have HD1 : Hid (Below W.heap.size W W.drew) := qh (drewN_below (Below.refl _ W) 1)
  have HA1 : Hid (∀ o, Below W.heap.size W (W.alloc o).drew) := qh fun o => drewN_below ((Below.refl _ W).alloc (zq _) o) 1
  have HOA : Hid ((W.alloc (.cells #[.int .u8 (IntKind.u8.wrap (cn : Int))] 5)).drew.ownsRow W.heap.size 5 1 (.slice (some ⟨W.heap.size, 0, none⟩) 1 1) 1 ([An.b1 cn].map u8v)) := qh (own_lit u8v W _ _ _ _ 1 _ HLIT.out rfl (zq _) rfl (by unfold maxLen; omega))
  have HOB : Hid (∀ V : World, W.heap.size ≤ V.heap.size → (V.alloc (.cells #[.int .u8 (IntKind.u8.wrap (cn : Int))] 5)).ownsRow W.heap.size 5 1 (.slice (some ⟨V.heap.size, 0, none⟩) 1 1) 1 ([An.b1 cn].map u8v)) := qh fun V hV => own_lit u8v V _ _ _ _ 1 _ HLIT.out rfl hV rfl (by unfold maxLen; omega)
  have HR : Hid (∀ (A : Option Addr) (n c n2 : Nat) (V : World), r.length = n2 → n = 1 + n2 → V.ownsRow W.heap.size 5 1 (.slice A n c) n (([An.b1 cn] ++ r).map u8v) → Below W.heap.size W V → AnTextPost w (An.b1 cn :: r) (.returned (.slice A n c)) V) := qh fun A n c n2 V e1 e2 ho hV => LaidPost.text ⟨A, n, c, rfl, by rw [List.length_cons]; omega, own_lower ho hb0.size, hb0.trans (hV.mono hb0.size)⟩
  clear HLIT
  go_region_held3 (fun X => (X.cell? ⟨w.heap.size, 0, none⟩ = some (.int .i64 (cn : Int)) ∧ X.cell? ⟨w.heap.size, 1, none⟩ = some (.int .i64 addr) ∧ X.cell? ⟨w.heap.size, 2, none⟩ = some (.int .i64 count) ∧ X.cell? ⟨w.heap.size, 3, none⟩ = some (.int .i64 to) ∧ X.cell? ⟨w.heap.size, 4, none⟩ = some (.slice h.1 h.2.1 h.2.2) ∧ X.cell? ⟨w.heap.size, 5, none⟩ = some (.slice k.1 k.2.1 k.2.2) ∧ X.cell? ⟨w.heap.size, 6, none⟩ = some (u16v and_) ∧ X.cell? ⟨w.heap.size, 7, none⟩ = some (u16v or_) ∧ X.cell? ⟨w.heap.size + 1, 0, none⟩ = some (.int .i64 0) ∧ X.cell? ⟨w.heap.size + 1, 1, none⟩ = some (.slice hx.1 hx.2.1 hx.2.2) ∧ X.cell? ⟨w.heap.size + 1, 2, none⟩ = some (.slice kx.1 kx.2.1 kx.2.2) ∧ X.cell? ⟨w.heap.size + 1, 3, none⟩ = some (.slice tx.1 tx.2.1 tx.2.2) ∧ Below (W).heap.size W X)) (first | with_reducible assumption | with_reducible exact HS.out _ HD1.out | with_reducible exact HS.out _ (HA1.out _) | with_reducible exact HS.out _ (hW.alloc hz' _) | fail) (first | (go_at_call 96; (first | (with_reducible refine (HB.out _ HD1.out).mono ?_) | (with_reducible refine (HB.out _ (HA1.out _)).mono ?_)); rintro e w' ⟨A2, n2, c2, rfl, g1, g2, g3, g4, hb'⟩; have hrl2 : n2 ≤ 300 := (by have := HRL.out; omega); (first | (have hW := HD1.out.trans (hb'.mono HD1.out.size)) | (have hW := (HA1.out _).trans (hb'.mono (HA1.out _).size); have hoA := own_below HOA.out hb')); have hz' := hW.size; have hh := HS.out _ hW) | (refine step_append_own kit8 one8 _ (by rfl) (.tmp 19) (.tmp 22) (by rfl) W.heap.size _ 1 [An.b1 cn] (by rfl) hoA A2 n2 c2 r (by rfl) g1 g4 (by omega) (by unfold maxLen; omega) hz' ?_; intro A9 c9 w9 hown9 hg9 hb9; have hW9 := hW.trans hb9; have hh9 := HS.out _ hW9) | (refine step_append_own kit8 one8 _ (by rfl) (.tmp 19) (.tmp 22) (by rfl) W.heap.size _ 1 [An.b1 cn] (by rfl) (HOB.out _ hz') A2 n2 c2 r (by rfl) g1 (g4.alloc _) (by omega) (by unfold maxLen; omega) (by simp; omega) ?_; intro A9 c9 w9 hown9 hg9 hb9; have hW9 := (hW.alloc hz' _).trans hb9; have hh9 := HS.out _ hW9) | fail)
  all_goals (
    go_wp2_with fail
    go_ret
    exact HR.out _ _ _ _ _ g1 rfl hown9 hW9)

end Go.Proofs.YtlgmjnjhdamknaaGreat
