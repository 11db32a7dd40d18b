
/-
  The landed answer: body, lay.
-/
import Derived.Test.YtlgmjnjhdamknaaGreatSa7
namespace Go.Proofs.YtlgmjnjhdamknaaGreat
open Go.RowKit

/-- What stands behind the code. -/
def An.rest (a : Ask) (x : Ans) : List UInt8 := (An.text a x).drop 1

set_option maxRecDepth 100000 in
set_option maxHeartbeats 1000000 in
theorem body7_1 (addr count to : Int) (words : List UInt16) (bits : List Bool) (and_ or_ : UInt16) (h k : Hd) (l : List Bool) (hx kx tx : Hd) (w : World) (ha : AskIn w ⟨1, addr, count, to, words, bits, and_, or_⟩ h k) (hi : AnsIn w ⟨0, l, [], []⟩ hx kx tx) (hm : l.length ≤ 2000) :
    Calls Tryz.prog 96 #[askV ⟨1, addr, count, to, words, bits, and_, or_⟩ h k, ansV ⟨0, l, [], []⟩ hx kx tx] w (AnTextPost w (An.b1 (Word.pack l).length :: Word.pack l)) := by
  have hra := old_at7 (row_at w #[.int .i64 1, .int .i64 addr, .int .i64 count, .int .i64 to, .slice h.1 h.2.1 h.2.2, .slice k.1 k.2.1 k.2.2, u16v and_, u16v or_] 40 w.heap.size rfl) (.cells #[.int .i64 0, .slice hx.1 hx.2.1 hx.2.2, .slice kx.1 kx.2.1 kx.2.2, .slice tx.1 tx.2.1 tx.2.2] 46)
  have hrx := row_at (w.alloc (.cells #[.int .i64 1, .int .i64 addr, .int .i64 count, .int .i64 to, .slice h.1 h.2.1 h.2.2, .slice k.1 k.2.1 k.2.2, u16v and_, u16v or_] 40)) #[.int .i64 0, .slice hx.1 hx.2.1 hx.2.2, .slice kx.1 kx.2.1 kx.2.2, .slice tx.1 tx.2.1 tx.2.2] 46 (w.heap.size + 1) (by simp)
  have hb0 : Below w.heap.size w ((w.alloc (.cells #[.int .i64 1, .int .i64 addr, .int .i64 count, .int .i64 to, .slice h.1 h.2.1 h.2.2, .slice k.1 k.2.1 k.2.2, u16v and_, u16v or_] 40)).alloc (.cells #[.int .i64 0, .slice hx.1 hx.2.1 hx.2.2, .slice kx.1 kx.2.1 kx.2.2, .slice tx.1 tx.2.1 tx.2.2] 46)) := ((Below.refl _ _).alloc (Nat.le_refl _) _).alloc (by simp) _
  have hlt1 : w.heap.size + 1 < ((w.alloc (.cells #[.int .i64 1, .int .i64 addr, .int .i64 count, .int .i64 to, .slice h.1 h.2.1 h.2.2, .slice k.1 k.2.1 k.2.2, u16v and_, u16v or_] 40)).alloc (.cells #[.int .i64 0, .slice hx.1 hx.2.1 hx.2.2, .slice kx.1 kx.2.1 kx.2.2, .slice tx.1 tx.2.1 tx.2.2] 46)).heap.size := row_lt hrx
  have hlt0 : w.heap.size < ((w.alloc (.cells #[.int .i64 1, .int .i64 addr, .int .i64 count, .int .i64 to, .slice h.1 h.2.1 h.2.2, .slice k.1 k.2.1 k.2.2, u16v and_, u16v or_] 40)).alloc (.cells #[.int .i64 0, .slice hx.1 hx.2.1 hx.2.2, .slice kx.1 kx.2.1 kx.2.2, .slice tx.1 tx.2.1 tx.2.2] 46)).heap.size := row_lt hra
  have HI := Lib.hid (hi.below hb0)
  have HAI := Lib.hid (ha.below hb0)
  have hn : l.length = hx.2.1 := hi.hn
  have HN : Hid ((Word.pack l).length = (hx.2.1 + 7) / 8) := Lib.hid (by rw [Word.pack_length, hn])
  have HP := Lib.hid (pack_any hx.1 hx.2.1 hx.2.2 l hn hi.hc (by omega) _ HI.out.hl)
  have h255 : (hx.2.1 + 7) / 8 ≤ 255 := by omega
  clear ha hi hn hm
  rw [askV_eq, ansV_eq]
  go_enter Tryz.func96, Tryz.ntmps96
  obtain ⟨r0, r1, r2, r3, r4, r5, r6, r7⟩ := row_eight hra
  obtain ⟨x0, x1, x2, x3⟩ := row_quad hrx
  go_wp2_with fail
  refine HP.out.mono ?_
  rintro e w2 ⟨A2, c2, rfl, g1, g2, g3, hb2, -⟩
  have hbw2 := hb0.trans (hb2.mono hb0.size)
  have HC := Lib.hid (counted7_any A2 ((hx.2.1 + 7) / 8) c2 (Word.pack l) HN.out h255 w2 g3)
  obtain ⟨L, hL⟩ : ∃ L, (hx.2.1 + 7) / 8 = L := ⟨_, rfl⟩
  rw [hL] at HC HN ⊢
  clear hL h255 HP g1 g2 g3
  go_wp2_with fail
  refine HC.out.mono ?_
  rintro e w3 ⟨A3, n3, c3, rfl, hn3, hown3, hb3⟩
  have HR : Hid (AnTextPost w (An.b1 (Word.pack l).length :: Word.pack l) (.returned (.slice A3 n3 c3)) w3) := Lib.hid (by rw [HN.out]; exact (LaidPost.text ⟨A3, n3, c3, rfl, hn3, own_lower hown3 hbw2.size, hbw2.trans (hb3.mono hbw2.size)⟩))
  clear hn3 hown3
  go_wp2_with fail
  go_ret
  exact HR.out

set_option maxRecDepth 100000 in
set_option maxHeartbeats 1000000 in
theorem body7_2 (addr count to : Int) (words : List UInt16) (bits : List Bool) (and_ or_ : UInt16) (h k : Hd) (l : List Bool) (hx kx tx : Hd) (w : World) (ha : AskIn w ⟨2, addr, count, to, words, bits, and_, or_⟩ h k) (hi : AnsIn w ⟨0, l, [], []⟩ hx kx tx) (hm : l.length ≤ 2000) :
    Calls Tryz.prog 96 #[askV ⟨2, addr, count, to, words, bits, and_, or_⟩ h k, ansV ⟨0, l, [], []⟩ hx kx tx] w (AnTextPost w (An.b1 (Word.pack l).length :: Word.pack l)) := by
  have hra := old_at7 (row_at w #[.int .i64 2, .int .i64 addr, .int .i64 count, .int .i64 to, .slice h.1 h.2.1 h.2.2, .slice k.1 k.2.1 k.2.2, u16v and_, u16v or_] 40 w.heap.size rfl) (.cells #[.int .i64 0, .slice hx.1 hx.2.1 hx.2.2, .slice kx.1 kx.2.1 kx.2.2, .slice tx.1 tx.2.1 tx.2.2] 46)
  have hrx := row_at (w.alloc (.cells #[.int .i64 2, .int .i64 addr, .int .i64 count, .int .i64 to, .slice h.1 h.2.1 h.2.2, .slice k.1 k.2.1 k.2.2, u16v and_, u16v or_] 40)) #[.int .i64 0, .slice hx.1 hx.2.1 hx.2.2, .slice kx.1 kx.2.1 kx.2.2, .slice tx.1 tx.2.1 tx.2.2] 46 (w.heap.size + 1) (by simp)
  have hb0 : Below w.heap.size w ((w.alloc (.cells #[.int .i64 2, .int .i64 addr, .int .i64 count, .int .i64 to, .slice h.1 h.2.1 h.2.2, .slice k.1 k.2.1 k.2.2, u16v and_, u16v or_] 40)).alloc (.cells #[.int .i64 0, .slice hx.1 hx.2.1 hx.2.2, .slice kx.1 kx.2.1 kx.2.2, .slice tx.1 tx.2.1 tx.2.2] 46)) := ((Below.refl _ _).alloc (Nat.le_refl _) _).alloc (by simp) _
  have hlt1 : w.heap.size + 1 < ((w.alloc (.cells #[.int .i64 2, .int .i64 addr, .int .i64 count, .int .i64 to, .slice h.1 h.2.1 h.2.2, .slice k.1 k.2.1 k.2.2, u16v and_, u16v or_] 40)).alloc (.cells #[.int .i64 0, .slice hx.1 hx.2.1 hx.2.2, .slice kx.1 kx.2.1 kx.2.2, .slice tx.1 tx.2.1 tx.2.2] 46)).heap.size := row_lt hrx
  have hlt0 : w.heap.size < ((w.alloc (.cells #[.int .i64 2, .int .i64 addr, .int .i64 count, .int .i64 to, .slice h.1 h.2.1 h.2.2, .slice k.1 k.2.1 k.2.2, u16v and_, u16v or_] 40)).alloc (.cells #[.int .i64 0, .slice hx.1 hx.2.1 hx.2.2, .slice kx.1 kx.2.1 kx.2.2, .slice tx.1 tx.2.1 tx.2.2] 46)).heap.size := row_lt hra
  have HI := Lib.hid (hi.below hb0)
  have HAI := Lib.hid (ha.below hb0)
  have hn : l.length = hx.2.1 := hi.hn
  have HN : Hid ((Word.pack l).length = (hx.2.1 + 7) / 8) := Lib.hid (by rw [Word.pack_length, hn])
  have HP := Lib.hid (pack_any hx.1 hx.2.1 hx.2.2 l hn hi.hc (by omega) _ HI.out.hl)
  have h255 : (hx.2.1 + 7) / 8 ≤ 255 := by omega
  clear ha hi hn hm
  rw [askV_eq, ansV_eq]
  go_enter Tryz.func96, Tryz.ntmps96
  obtain ⟨r0, r1, r2, r3, r4, r5, r6, r7⟩ := row_eight hra
  obtain ⟨x0, x1, x2, x3⟩ := row_quad hrx
  go_wp2_with fail
  refine HP.out.mono ?_
  rintro e w2 ⟨A2, c2, rfl, g1, g2, g3, hb2, -⟩
  have hbw2 := hb0.trans (hb2.mono hb0.size)
  have HC := Lib.hid (counted7_any A2 ((hx.2.1 + 7) / 8) c2 (Word.pack l) HN.out h255 w2 g3)
  obtain ⟨L, hL⟩ : ∃ L, (hx.2.1 + 7) / 8 = L := ⟨_, rfl⟩
  rw [hL] at HC HN ⊢
  clear hL h255 HP g1 g2 g3
  go_wp2_with fail
  refine HC.out.mono ?_
  rintro e w3 ⟨A3, n3, c3, rfl, hn3, hown3, hb3⟩
  have HR : Hid (AnTextPost w (An.b1 (Word.pack l).length :: Word.pack l) (.returned (.slice A3 n3 c3)) w3) := Lib.hid (by rw [HN.out]; exact (LaidPost.text ⟨A3, n3, c3, rfl, hn3, own_lower hown3 hbw2.size, hbw2.trans (hb3.mono hbw2.size)⟩))
  clear hn3 hown3
  go_wp2_with fail
  go_ret
  exact HR.out

set_option maxRecDepth 100000 in
set_option maxHeartbeats 1000000 in
theorem body7_3 (addr count to : Int) (words : List UInt16) (bits : List Bool) (and_ or_ : UInt16) (h k : Hd) (l : List UInt16) (hx kx tx : Hd) (w : World) (ha : AskIn w ⟨3, addr, count, to, words, bits, and_, or_⟩ h k) (hi : AnsIn w ⟨0, [], l, []⟩ hx kx tx) (hm : l.length ≤ 125) :
    Calls Tryz.prog 96 #[askV ⟨3, addr, count, to, words, bits, and_, or_⟩ h k, ansV ⟨0, [], l, []⟩ hx kx tx] w (AnTextPost w (An.b1 (Word.bytes l).length :: Word.bytes l)) := by
  have hra := old_at7 (row_at w #[.int .i64 3, .int .i64 addr, .int .i64 count, .int .i64 to, .slice h.1 h.2.1 h.2.2, .slice k.1 k.2.1 k.2.2, u16v and_, u16v or_] 40 w.heap.size rfl) (.cells #[.int .i64 0, .slice hx.1 hx.2.1 hx.2.2, .slice kx.1 kx.2.1 kx.2.2, .slice tx.1 tx.2.1 tx.2.2] 46)
  have hrx := row_at (w.alloc (.cells #[.int .i64 3, .int .i64 addr, .int .i64 count, .int .i64 to, .slice h.1 h.2.1 h.2.2, .slice k.1 k.2.1 k.2.2, u16v and_, u16v or_] 40)) #[.int .i64 0, .slice hx.1 hx.2.1 hx.2.2, .slice kx.1 kx.2.1 kx.2.2, .slice tx.1 tx.2.1 tx.2.2] 46 (w.heap.size + 1) (by simp)
  have hb0 : Below w.heap.size w ((w.alloc (.cells #[.int .i64 3, .int .i64 addr, .int .i64 count, .int .i64 to, .slice h.1 h.2.1 h.2.2, .slice k.1 k.2.1 k.2.2, u16v and_, u16v or_] 40)).alloc (.cells #[.int .i64 0, .slice hx.1 hx.2.1 hx.2.2, .slice kx.1 kx.2.1 kx.2.2, .slice tx.1 tx.2.1 tx.2.2] 46)) := ((Below.refl _ _).alloc (Nat.le_refl _) _).alloc (by simp) _
  have hlt1 : w.heap.size + 1 < ((w.alloc (.cells #[.int .i64 3, .int .i64 addr, .int .i64 count, .int .i64 to, .slice h.1 h.2.1 h.2.2, .slice k.1 k.2.1 k.2.2, u16v and_, u16v or_] 40)).alloc (.cells #[.int .i64 0, .slice hx.1 hx.2.1 hx.2.2, .slice kx.1 kx.2.1 kx.2.2, .slice tx.1 tx.2.1 tx.2.2] 46)).heap.size := row_lt hrx
  have hlt0 : w.heap.size < ((w.alloc (.cells #[.int .i64 3, .int .i64 addr, .int .i64 count, .int .i64 to, .slice h.1 h.2.1 h.2.2, .slice k.1 k.2.1 k.2.2, u16v and_, u16v or_] 40)).alloc (.cells #[.int .i64 0, .slice hx.1 hx.2.1 hx.2.2, .slice kx.1 kx.2.1 kx.2.2, .slice tx.1 tx.2.1 tx.2.2] 46)).heap.size := row_lt hra
  have HI := Lib.hid (hi.below hb0)
  have HAI := Lib.hid (ha.below hb0)
  have hn : l.length = kx.2.1 := hi.kn
  have HN : Hid ((Word.bytes l).length = 2 * kx.2.1) := Lib.hid (by rw [Word.bytes_length, hn])
  have HP := Lib.hid (bytes_any kx.1 kx.2.1 kx.2.2 l hn (by omega) _ HI.out.kl)
  have h255 : 2 * kx.2.1 ≤ 255 := by omega
  clear ha hi hn hm
  rw [askV_eq, ansV_eq]
  go_enter Tryz.func96, Tryz.ntmps96
  obtain ⟨r0, r1, r2, r3, r4, r5, r6, r7⟩ := row_eight hra
  obtain ⟨x0, x1, x2, x3⟩ := row_quad hrx
  go_wp2_with fail
  refine HP.out.mono ?_
  rintro e w2 ⟨A2, c2, rfl, g1, g2, g3, hb2, -⟩
  have hbw2 := hb0.trans (hb2.mono hb0.size)
  have HC := Lib.hid (counted7_any A2 (2 * kx.2.1) c2 (Word.bytes l) HN.out h255 w2 g3)
  obtain ⟨L, hL⟩ : ∃ L, 2 * kx.2.1 = L := ⟨_, rfl⟩
  rw [hL] at HC HN ⊢
  clear hL h255 HP g1 g2 g3
  go_wp2_with fail
  refine HC.out.mono ?_
  rintro e w3 ⟨A3, n3, c3, rfl, hn3, hown3, hb3⟩
  have HR : Hid (AnTextPost w (An.b1 (Word.bytes l).length :: Word.bytes l) (.returned (.slice A3 n3 c3)) w3) := Lib.hid (by rw [HN.out]; exact (LaidPost.text ⟨A3, n3, c3, rfl, hn3, own_lower hown3 hbw2.size, hbw2.trans (hb3.mono hbw2.size)⟩))
  clear hn3 hown3
  go_wp2_with fail
  go_ret
  exact HR.out

set_option maxRecDepth 100000 in
set_option maxHeartbeats 1000000 in
theorem body7_4 (addr count to : Int) (words : List UInt16) (bits : List Bool) (and_ or_ : UInt16) (h k : Hd) (l : List UInt16) (hx kx tx : Hd) (w : World) (ha : AskIn w ⟨4, addr, count, to, words, bits, and_, or_⟩ h k) (hi : AnsIn w ⟨0, [], l, []⟩ hx kx tx) (hm : l.length ≤ 125) :
    Calls Tryz.prog 96 #[askV ⟨4, addr, count, to, words, bits, and_, or_⟩ h k, ansV ⟨0, [], l, []⟩ hx kx tx] w (AnTextPost w (An.b1 (Word.bytes l).length :: Word.bytes l)) := by
  have hra := old_at7 (row_at w #[.int .i64 4, .int .i64 addr, .int .i64 count, .int .i64 to, .slice h.1 h.2.1 h.2.2, .slice k.1 k.2.1 k.2.2, u16v and_, u16v or_] 40 w.heap.size rfl) (.cells #[.int .i64 0, .slice hx.1 hx.2.1 hx.2.2, .slice kx.1 kx.2.1 kx.2.2, .slice tx.1 tx.2.1 tx.2.2] 46)
  have hrx := row_at (w.alloc (.cells #[.int .i64 4, .int .i64 addr, .int .i64 count, .int .i64 to, .slice h.1 h.2.1 h.2.2, .slice k.1 k.2.1 k.2.2, u16v and_, u16v or_] 40)) #[.int .i64 0, .slice hx.1 hx.2.1 hx.2.2, .slice kx.1 kx.2.1 kx.2.2, .slice tx.1 tx.2.1 tx.2.2] 46 (w.heap.size + 1) (by simp)
  have hb0 : Below w.heap.size w ((w.alloc (.cells #[.int .i64 4, .int .i64 addr, .int .i64 count, .int .i64 to, .slice h.1 h.2.1 h.2.2, .slice k.1 k.2.1 k.2.2, u16v and_, u16v or_] 40)).alloc (.cells #[.int .i64 0, .slice hx.1 hx.2.1 hx.2.2, .slice kx.1 kx.2.1 kx.2.2, .slice tx.1 tx.2.1 tx.2.2] 46)) := ((Below.refl _ _).alloc (Nat.le_refl _) _).alloc (by simp) _
  have hlt1 : w.heap.size + 1 < ((w.alloc (.cells #[.int .i64 4, .int .i64 addr, .int .i64 count, .int .i64 to, .slice h.1 h.2.1 h.2.2, .slice k.1 k.2.1 k.2.2, u16v and_, u16v or_] 40)).alloc (.cells #[.int .i64 0, .slice hx.1 hx.2.1 hx.2.2, .slice kx.1 kx.2.1 kx.2.2, .slice tx.1 tx.2.1 tx.2.2] 46)).heap.size := row_lt hrx
  have hlt0 : w.heap.size < ((w.alloc (.cells #[.int .i64 4, .int .i64 addr, .int .i64 count, .int .i64 to, .slice h.1 h.2.1 h.2.2, .slice k.1 k.2.1 k.2.2, u16v and_, u16v or_] 40)).alloc (.cells #[.int .i64 0, .slice hx.1 hx.2.1 hx.2.2, .slice kx.1 kx.2.1 kx.2.2, .slice tx.1 tx.2.1 tx.2.2] 46)).heap.size := row_lt hra
  have HI := Lib.hid (hi.below hb0)
  have HAI := Lib.hid (ha.below hb0)
  have hn : l.length = kx.2.1 := hi.kn
  have HN : Hid ((Word.bytes l).length = 2 * kx.2.1) := Lib.hid (by rw [Word.bytes_length, hn])
  have HP := Lib.hid (bytes_any kx.1 kx.2.1 kx.2.2 l hn (by omega) _ HI.out.kl)
  have h255 : 2 * kx.2.1 ≤ 255 := by omega
  clear ha hi hn hm
  rw [askV_eq, ansV_eq]
  go_enter Tryz.func96, Tryz.ntmps96
  obtain ⟨r0, r1, r2, r3, r4, r5, r6, r7⟩ := row_eight hra
  obtain ⟨x0, x1, x2, x3⟩ := row_quad hrx
  go_wp2_with fail
  refine HP.out.mono ?_
  rintro e w2 ⟨A2, c2, rfl, g1, g2, g3, hb2, -⟩
  have hbw2 := hb0.trans (hb2.mono hb0.size)
  have HC := Lib.hid (counted7_any A2 (2 * kx.2.1) c2 (Word.bytes l) HN.out h255 w2 g3)
  obtain ⟨L, hL⟩ : ∃ L, 2 * kx.2.1 = L := ⟨_, rfl⟩
  rw [hL] at HC HN ⊢
  clear hL h255 HP g1 g2 g3
  go_wp2_with fail
  refine HC.out.mono ?_
  rintro e w3 ⟨A3, n3, c3, rfl, hn3, hown3, hb3⟩
  have HR : Hid (AnTextPost w (An.b1 (Word.bytes l).length :: Word.bytes l) (.returned (.slice A3 n3 c3)) w3) := Lib.hid (by rw [HN.out]; exact (LaidPost.text ⟨A3, n3, c3, rfl, hn3, own_lower hown3 hbw2.size, hbw2.trans (hb3.mono hbw2.size)⟩))
  clear hn3 hown3
  go_wp2_with fail
  go_ret
  exact HR.out

set_option maxRecDepth 100000 in
set_option maxHeartbeats 1000000 in
theorem body7_23 (addr count to : Int) (words : List UInt16) (bits : List Bool) (and_ or_ : UInt16) (h k : Hd) (l : List UInt16) (hx kx tx : Hd) (w : World) (ha : AskIn w ⟨23, addr, count, to, words, bits, and_, or_⟩ h k) (hi : AnsIn w ⟨0, [], l, []⟩ hx kx tx) (hm : l.length ≤ 125) :
    Calls Tryz.prog 96 #[askV ⟨23, addr, count, to, words, bits, and_, or_⟩ h k, ansV ⟨0, [], l, []⟩ hx kx tx] w (AnTextPost w (An.b1 (Word.bytes l).length :: Word.bytes l)) := by
  have hra := old_at7 (row_at w #[.int .i64 23, .int .i64 addr, .int .i64 count, .int .i64 to, .slice h.1 h.2.1 h.2.2, .slice k.1 k.2.1 k.2.2, u16v and_, u16v or_] 40 w.heap.size rfl) (.cells #[.int .i64 0, .slice hx.1 hx.2.1 hx.2.2, .slice kx.1 kx.2.1 kx.2.2, .slice tx.1 tx.2.1 tx.2.2] 46)
  have hrx := row_at (w.alloc (.cells #[.int .i64 23, .int .i64 addr, .int .i64 count, .int .i64 to, .slice h.1 h.2.1 h.2.2, .slice k.1 k.2.1 k.2.2, u16v and_, u16v or_] 40)) #[.int .i64 0, .slice hx.1 hx.2.1 hx.2.2, .slice kx.1 kx.2.1 kx.2.2, .slice tx.1 tx.2.1 tx.2.2] 46 (w.heap.size + 1) (by simp)
  have hb0 : Below w.heap.size w ((w.alloc (.cells #[.int .i64 23, .int .i64 addr, .int .i64 count, .int .i64 to, .slice h.1 h.2.1 h.2.2, .slice k.1 k.2.1 k.2.2, u16v and_, u16v or_] 40)).alloc (.cells #[.int .i64 0, .slice hx.1 hx.2.1 hx.2.2, .slice kx.1 kx.2.1 kx.2.2, .slice tx.1 tx.2.1 tx.2.2] 46)) := ((Below.refl _ _).alloc (Nat.le_refl _) _).alloc (by simp) _
  have hlt1 : w.heap.size + 1 < ((w.alloc (.cells #[.int .i64 23, .int .i64 addr, .int .i64 count, .int .i64 to, .slice h.1 h.2.1 h.2.2, .slice k.1 k.2.1 k.2.2, u16v and_, u16v or_] 40)).alloc (.cells #[.int .i64 0, .slice hx.1 hx.2.1 hx.2.2, .slice kx.1 kx.2.1 kx.2.2, .slice tx.1 tx.2.1 tx.2.2] 46)).heap.size := row_lt hrx
  have hlt0 : w.heap.size < ((w.alloc (.cells #[.int .i64 23, .int .i64 addr, .int .i64 count, .int .i64 to, .slice h.1 h.2.1 h.2.2, .slice k.1 k.2.1 k.2.2, u16v and_, u16v or_] 40)).alloc (.cells #[.int .i64 0, .slice hx.1 hx.2.1 hx.2.2, .slice kx.1 kx.2.1 kx.2.2, .slice tx.1 tx.2.1 tx.2.2] 46)).heap.size := row_lt hra
  have HI := Lib.hid (hi.below hb0)
  have HAI := Lib.hid (ha.below hb0)
  have hn : l.length = kx.2.1 := hi.kn
  have HN : Hid ((Word.bytes l).length = 2 * kx.2.1) := Lib.hid (by rw [Word.bytes_length, hn])
  have HP := Lib.hid (bytes_any kx.1 kx.2.1 kx.2.2 l hn (by omega) _ HI.out.kl)
  have h255 : 2 * kx.2.1 ≤ 255 := by omega
  clear ha hi hn hm
  rw [askV_eq, ansV_eq]
  go_enter Tryz.func96, Tryz.ntmps96
  obtain ⟨r0, r1, r2, r3, r4, r5, r6, r7⟩ := row_eight hra
  obtain ⟨x0, x1, x2, x3⟩ := row_quad hrx
  go_wp2_with fail
  refine HP.out.mono ?_
  rintro e w2 ⟨A2, c2, rfl, g1, g2, g3, hb2, -⟩
  have hbw2 := hb0.trans (hb2.mono hb0.size)
  have HC := Lib.hid (counted7_any A2 (2 * kx.2.1) c2 (Word.bytes l) HN.out h255 w2 g3)
  obtain ⟨L, hL⟩ : ∃ L, 2 * kx.2.1 = L := ⟨_, rfl⟩
  rw [hL] at HC HN ⊢
  clear hL h255 HP g1 g2 g3
  go_wp2_with fail
  refine HC.out.mono ?_
  rintro e w3 ⟨A3, n3, c3, rfl, hn3, hown3, hb3⟩
  have HR : Hid (AnTextPost w (An.b1 (Word.bytes l).length :: Word.bytes l) (.returned (.slice A3 n3 c3)) w3) := Lib.hid (by rw [HN.out]; exact (LaidPost.text ⟨A3, n3, c3, rfl, hn3, own_lower hown3 hbw2.size, hbw2.trans (hb3.mono hbw2.size)⟩))
  clear hn3 hown3
  go_wp2_with fail
  go_ret
  exact HR.out

set_option maxRecDepth 100000 in
set_option maxHeartbeats 1000000 in
theorem body7_43 (addr count to : Int) (words : List UInt16) (bits : List Bool) (and_ or_ : UInt16) (h k : Hd) (l : List ByteArray) (hx kx tx : Hd) (w : World) (ha : AskIn w ⟨43, addr, count, to, words, bits, and_, or_⟩ h k) (hi : AnsIn w ⟨0, [], [], l⟩ hx kx tx) (hc0 : 0 ≤ count) (hc1 : count ≤ 255) (ha0 : 0 ≤ addr) (h0 : An.long l ≤ 253) (hsz : ∀ s ∈ l, s.size ≤ 245) (h256 : addr + l.length ≤ 256) :
    Calls Tryz.prog 96 #[askV ⟨43, addr, count, to, words, bits, and_, or_⟩ h k, ansV ⟨0, [], [], l⟩ hx kx tx] w (AnTextPost w (An.ahead ⟨43, addr, count, to, words, bits, and_, or_⟩ ++ (An.b1 tx.2.1 :: An.laid addr.toNat l))) := by
  have hra := old_at7 (row_at w #[.int .i64 43, .int .i64 addr, .int .i64 count, .int .i64 to, .slice h.1 h.2.1 h.2.2, .slice k.1 k.2.1 k.2.2, u16v and_, u16v or_] 40 w.heap.size rfl) (.cells #[.int .i64 0, .slice hx.1 hx.2.1 hx.2.2, .slice kx.1 kx.2.1 kx.2.2, .slice tx.1 tx.2.1 tx.2.2] 46)
  have hrx := row_at (w.alloc (.cells #[.int .i64 43, .int .i64 addr, .int .i64 count, .int .i64 to, .slice h.1 h.2.1 h.2.2, .slice k.1 k.2.1 k.2.2, u16v and_, u16v or_] 40)) #[.int .i64 0, .slice hx.1 hx.2.1 hx.2.2, .slice kx.1 kx.2.1 kx.2.2, .slice tx.1 tx.2.1 tx.2.2] 46 (w.heap.size + 1) (by simp)
  have hb0 : Below w.heap.size w ((w.alloc (.cells #[.int .i64 43, .int .i64 addr, .int .i64 count, .int .i64 to, .slice h.1 h.2.1 h.2.2, .slice k.1 k.2.1 k.2.2, u16v and_, u16v or_] 40)).alloc (.cells #[.int .i64 0, .slice hx.1 hx.2.1 hx.2.2, .slice kx.1 kx.2.1 kx.2.2, .slice tx.1 tx.2.1 tx.2.2] 46)) := ((Below.refl _ _).alloc (Nat.le_refl _) _).alloc (by simp) _
  have hlt1 : w.heap.size + 1 < ((w.alloc (.cells #[.int .i64 43, .int .i64 addr, .int .i64 count, .int .i64 to, .slice h.1 h.2.1 h.2.2, .slice k.1 k.2.1 k.2.2, u16v and_, u16v or_] 40)).alloc (.cells #[.int .i64 0, .slice hx.1 hx.2.1 hx.2.2, .slice kx.1 kx.2.1 kx.2.2, .slice tx.1 tx.2.1 tx.2.2] 46)).heap.size := row_lt hrx
  have hlt0 : w.heap.size < ((w.alloc (.cells #[.int .i64 43, .int .i64 addr, .int .i64 count, .int .i64 to, .slice h.1 h.2.1 h.2.2, .slice k.1 k.2.1 k.2.2, u16v and_, u16v or_] 40)).alloc (.cells #[.int .i64 0, .slice hx.1 hx.2.1 hx.2.2, .slice kx.1 kx.2.1 kx.2.2, .slice tx.1 tx.2.1 tx.2.2] 46)).heap.size := row_lt hra
  have HI := Lib.hid (hi.below hb0)
  have HAI := Lib.hid (ha.below hb0)
  have htn : l.length = tx.2.1 := hi.tn
  have HC := Lib.hid (fun W hl => (laytexts7_any ⟨43, addr, count, to, words, bits, and_, or_⟩ h k tx.1 tx.2.1 tx.2.2 l addr.toNat (by dsimp only; omega) hc0 hc1 htn h0 hsz (by omega) W hl).mono fun _ _ => LaidPost.text)
  rw [← htn] at HC
  replace HC := Lib.hid (HC.out _ HI.out.tl)
  rw [htn] at HC
  clear htn h0 hsz h256 hc0 hc1 ha0
  rw [askV_eq] at HC
  clear ha hi
  rw [askV_eq, ansV_eq]
  go_enter Tryz.func96, Tryz.ntmps96
  obtain ⟨r0, r1, r2, r3, r4, r5, r6, r7⟩ := row_eight hra
  obtain ⟨x0, x1, x2, x3⟩ := row_quad hrx
  go_wp2_with fail
  refine HC.out.mono ?_
  intro e w2 hp
  obtain ⟨A2, n2, c2, rfl, g1, g2, g3, g4, hb2⟩ := hp
  have HR : Hid (AnTextPost w _ (.returned (.slice A2 n2 c2)) w2) := Lib.hid ⟨A2, n2, c2, rfl, g1, g2, g3, g4, hb0.trans (hb2.mono hb0.size)⟩
  clear g1 g2 g3 g4
  go_wp2_with fail
  go_ret
  exact HR.out

set_option maxRecDepth 100000 in
set_option maxHeartbeats 1000000 in
theorem body7_5 (addr count to : Int) (words : List UInt16) (bits : List Bool) (and_ or_ : UInt16) (h k : Hd)  (hx kx tx : Hd) (w : World) (ha : AskIn w ⟨5, addr, count, to, words, bits, and_, or_⟩ h k) (hi : AnsIn w An.zero hx kx tx) (hr : Ak.right ⟨5, addr, count, to, words, bits, and_, or_⟩ = true) :
    Calls Tryz.prog 96 #[askV ⟨5, addr, count, to, words, bits, and_, or_⟩ h k, ansV An.zero hx kx tx] w (AnTextPost w (An.echo ⟨5, addr, count, to, words, bits, and_, or_⟩)) := by
  have hra := old_at7 (row_at w #[.int .i64 5, .int .i64 addr, .int .i64 count, .int .i64 to, .slice h.1 h.2.1 h.2.2, .slice k.1 k.2.1 k.2.2, u16v and_, u16v or_] 40 w.heap.size rfl) (.cells #[.int .i64 0, .slice hx.1 hx.2.1 hx.2.2, .slice kx.1 kx.2.1 kx.2.2, .slice tx.1 tx.2.1 tx.2.2] 46)
  have hrx := row_at (w.alloc (.cells #[.int .i64 5, .int .i64 addr, .int .i64 count, .int .i64 to, .slice h.1 h.2.1 h.2.2, .slice k.1 k.2.1 k.2.2, u16v and_, u16v or_] 40)) #[.int .i64 0, .slice hx.1 hx.2.1 hx.2.2, .slice kx.1 kx.2.1 kx.2.2, .slice tx.1 tx.2.1 tx.2.2] 46 (w.heap.size + 1) (by simp)
  have hb0 : Below w.heap.size w ((w.alloc (.cells #[.int .i64 5, .int .i64 addr, .int .i64 count, .int .i64 to, .slice h.1 h.2.1 h.2.2, .slice k.1 k.2.1 k.2.2, u16v and_, u16v or_] 40)).alloc (.cells #[.int .i64 0, .slice hx.1 hx.2.1 hx.2.2, .slice kx.1 kx.2.1 kx.2.2, .slice tx.1 tx.2.1 tx.2.2] 46)) := ((Below.refl _ _).alloc (Nat.le_refl _) _).alloc (by simp) _
  have hlt1 : w.heap.size + 1 < ((w.alloc (.cells #[.int .i64 5, .int .i64 addr, .int .i64 count, .int .i64 to, .slice h.1 h.2.1 h.2.2, .slice k.1 k.2.1 k.2.2, u16v and_, u16v or_] 40)).alloc (.cells #[.int .i64 0, .slice hx.1 hx.2.1 hx.2.2, .slice kx.1 kx.2.1 kx.2.2, .slice tx.1 tx.2.1 tx.2.2] 46)).heap.size := row_lt hrx
  have hlt0 : w.heap.size < ((w.alloc (.cells #[.int .i64 5, .int .i64 addr, .int .i64 count, .int .i64 to, .slice h.1 h.2.1 h.2.2, .slice k.1 k.2.1 k.2.2, u16v and_, u16v or_] 40)).alloc (.cells #[.int .i64 0, .slice hx.1 hx.2.1 hx.2.2, .slice kx.1 kx.2.1 kx.2.2, .slice tx.1 tx.2.1 tx.2.2] 46)).heap.size := row_lt hra
  have HI := Lib.hid (hi.below hb0)
  have HAI := Lib.hid (ha.below hb0)
  have HC := Lib.hid (echo7_any ⟨5, addr, count, to, words, bits, and_, or_⟩ h k _ HAI.out hr (by simp))
  rw [askV_eq] at HC
  clear ha hi
  rw [askV_eq, ansV_eq]
  go_enter Tryz.func96, Tryz.ntmps96
  obtain ⟨r0, r1, r2, r3, r4, r5, r6, r7⟩ := row_eight hra
  obtain ⟨x0, x1, x2, x3⟩ := row_quad hrx
  go_wp2_with fail
  refine HC.out.mono ?_
  intro e w2 hp
  obtain ⟨A2, n2, c2, rfl, g1, g2, g3, g4, hb2⟩ := hp
  have HR : Hid (AnTextPost w _ (.returned (.slice A2 n2 c2)) w2) := Lib.hid ⟨A2, n2, c2, rfl, g1, g2, g3, g4, hb0.trans (hb2.mono hb0.size)⟩
  clear g1 g2 g3 g4
  go_wp2_with fail
  go_ret
  exact HR.out

set_option maxRecDepth 100000 in
set_option maxHeartbeats 1000000 in
theorem body7_6 (addr count to : Int) (words : List UInt16) (bits : List Bool) (and_ or_ : UInt16) (h k : Hd)  (hx kx tx : Hd) (w : World) (ha : AskIn w ⟨6, addr, count, to, words, bits, and_, or_⟩ h k) (hi : AnsIn w An.zero hx kx tx) (hr : Ak.right ⟨6, addr, count, to, words, bits, and_, or_⟩ = true) :
    Calls Tryz.prog 96 #[askV ⟨6, addr, count, to, words, bits, and_, or_⟩ h k, ansV An.zero hx kx tx] w (AnTextPost w (An.echo ⟨6, addr, count, to, words, bits, and_, or_⟩)) := by
  have hra := old_at7 (row_at w #[.int .i64 6, .int .i64 addr, .int .i64 count, .int .i64 to, .slice h.1 h.2.1 h.2.2, .slice k.1 k.2.1 k.2.2, u16v and_, u16v or_] 40 w.heap.size rfl) (.cells #[.int .i64 0, .slice hx.1 hx.2.1 hx.2.2, .slice kx.1 kx.2.1 kx.2.2, .slice tx.1 tx.2.1 tx.2.2] 46)
  have hrx := row_at (w.alloc (.cells #[.int .i64 6, .int .i64 addr, .int .i64 count, .int .i64 to, .slice h.1 h.2.1 h.2.2, .slice k.1 k.2.1 k.2.2, u16v and_, u16v or_] 40)) #[.int .i64 0, .slice hx.1 hx.2.1 hx.2.2, .slice kx.1 kx.2.1 kx.2.2, .slice tx.1 tx.2.1 tx.2.2] 46 (w.heap.size + 1) (by simp)
  have hb0 : Below w.heap.size w ((w.alloc (.cells #[.int .i64 6, .int .i64 addr, .int .i64 count, .int .i64 to, .slice h.1 h.2.1 h.2.2, .slice k.1 k.2.1 k.2.2, u16v and_, u16v or_] 40)).alloc (.cells #[.int .i64 0, .slice hx.1 hx.2.1 hx.2.2, .slice kx.1 kx.2.1 kx.2.2, .slice tx.1 tx.2.1 tx.2.2] 46)) := ((Below.refl _ _).alloc (Nat.le_refl _) _).alloc (by simp) _
  have hlt1 : w.heap.size + 1 < ((w.alloc (.cells #[.int .i64 6, .int .i64 addr, .int .i64 count, .int .i64 to, .slice h.1 h.2.1 h.2.2, .slice k.1 k.2.1 k.2.2, u16v and_, u16v or_] 40)).alloc (.cells #[.int .i64 0, .slice hx.1 hx.2.1 hx.2.2, .slice kx.1 kx.2.1 kx.2.2, .slice tx.1 tx.2.1 tx.2.2] 46)).heap.size := row_lt hrx
  have hlt0 : w.heap.size < ((w.alloc (.cells #[.int .i64 6, .int .i64 addr, .int .i64 count, .int .i64 to, .slice h.1 h.2.1 h.2.2, .slice k.1 k.2.1 k.2.2, u16v and_, u16v or_] 40)).alloc (.cells #[.int .i64 0, .slice hx.1 hx.2.1 hx.2.2, .slice kx.1 kx.2.1 kx.2.2, .slice tx.1 tx.2.1 tx.2.2] 46)).heap.size := row_lt hra
  have HI := Lib.hid (hi.below hb0)
  have HAI := Lib.hid (ha.below hb0)
  have HC := Lib.hid (echo7_any ⟨6, addr, count, to, words, bits, and_, or_⟩ h k _ HAI.out hr (by simp))
  rw [askV_eq] at HC
  clear ha hi
  rw [askV_eq, ansV_eq]
  go_enter Tryz.func96, Tryz.ntmps96
  obtain ⟨r0, r1, r2, r3, r4, r5, r6, r7⟩ := row_eight hra
  obtain ⟨x0, x1, x2, x3⟩ := row_quad hrx
  go_wp2_with fail
  refine HC.out.mono ?_
  intro e w2 hp
  obtain ⟨A2, n2, c2, rfl, g1, g2, g3, g4, hb2⟩ := hp
  have HR : Hid (AnTextPost w _ (.returned (.slice A2 n2 c2)) w2) := Lib.hid ⟨A2, n2, c2, rfl, g1, g2, g3, g4, hb0.trans (hb2.mono hb0.size)⟩
  clear g1 g2 g3 g4
  go_wp2_with fail
  go_ret
  exact HR.out

set_option maxRecDepth 100000 in
set_option maxHeartbeats 1000000 in
theorem body7_22 (addr count to : Int) (words : List UInt16) (bits : List Bool) (and_ or_ : UInt16) (h k : Hd)  (hx kx tx : Hd) (w : World) (ha : AskIn w ⟨22, addr, count, to, words, bits, and_, or_⟩ h k) (hi : AnsIn w An.zero hx kx tx) (hr : Ak.right ⟨22, addr, count, to, words, bits, and_, or_⟩ = true) :
    Calls Tryz.prog 96 #[askV ⟨22, addr, count, to, words, bits, and_, or_⟩ h k, ansV An.zero hx kx tx] w (AnTextPost w (An.echo ⟨22, addr, count, to, words, bits, and_, or_⟩)) := by
  have hra := old_at7 (row_at w #[.int .i64 22, .int .i64 addr, .int .i64 count, .int .i64 to, .slice h.1 h.2.1 h.2.2, .slice k.1 k.2.1 k.2.2, u16v and_, u16v or_] 40 w.heap.size rfl) (.cells #[.int .i64 0, .slice hx.1 hx.2.1 hx.2.2, .slice kx.1 kx.2.1 kx.2.2, .slice tx.1 tx.2.1 tx.2.2] 46)
  have hrx := row_at (w.alloc (.cells #[.int .i64 22, .int .i64 addr, .int .i64 count, .int .i64 to, .slice h.1 h.2.1 h.2.2, .slice k.1 k.2.1 k.2.2, u16v and_, u16v or_] 40)) #[.int .i64 0, .slice hx.1 hx.2.1 hx.2.2, .slice kx.1 kx.2.1 kx.2.2, .slice tx.1 tx.2.1 tx.2.2] 46 (w.heap.size + 1) (by simp)
  have hb0 : Below w.heap.size w ((w.alloc (.cells #[.int .i64 22, .int .i64 addr, .int .i64 count, .int .i64 to, .slice h.1 h.2.1 h.2.2, .slice k.1 k.2.1 k.2.2, u16v and_, u16v or_] 40)).alloc (.cells #[.int .i64 0, .slice hx.1 hx.2.1 hx.2.2, .slice kx.1 kx.2.1 kx.2.2, .slice tx.1 tx.2.1 tx.2.2] 46)) := ((Below.refl _ _).alloc (Nat.le_refl _) _).alloc (by simp) _
  have hlt1 : w.heap.size + 1 < ((w.alloc (.cells #[.int .i64 22, .int .i64 addr, .int .i64 count, .int .i64 to, .slice h.1 h.2.1 h.2.2, .slice k.1 k.2.1 k.2.2, u16v and_, u16v or_] 40)).alloc (.cells #[.int .i64 0, .slice hx.1 hx.2.1 hx.2.2, .slice kx.1 kx.2.1 kx.2.2, .slice tx.1 tx.2.1 tx.2.2] 46)).heap.size := row_lt hrx
  have hlt0 : w.heap.size < ((w.alloc (.cells #[.int .i64 22, .int .i64 addr, .int .i64 count, .int .i64 to, .slice h.1 h.2.1 h.2.2, .slice k.1 k.2.1 k.2.2, u16v and_, u16v or_] 40)).alloc (.cells #[.int .i64 0, .slice hx.1 hx.2.1 hx.2.2, .slice kx.1 kx.2.1 kx.2.2, .slice tx.1 tx.2.1 tx.2.2] 46)).heap.size := row_lt hra
  have HI := Lib.hid (hi.below hb0)
  have HAI := Lib.hid (ha.below hb0)
  have HC := Lib.hid (echo7_any ⟨22, addr, count, to, words, bits, and_, or_⟩ h k _ HAI.out hr (by simp))
  rw [askV_eq] at HC
  clear ha hi
  rw [askV_eq, ansV_eq]
  go_enter Tryz.func96, Tryz.ntmps96
  obtain ⟨r0, r1, r2, r3, r4, r5, r6, r7⟩ := row_eight hra
  obtain ⟨x0, x1, x2, x3⟩ := row_quad hrx
  go_wp2_with fail
  refine HC.out.mono ?_
  intro e w2 hp
  obtain ⟨A2, n2, c2, rfl, g1, g2, g3, g4, hb2⟩ := hp
  have HR : Hid (AnTextPost w _ (.returned (.slice A2 n2 c2)) w2) := Lib.hid ⟨A2, n2, c2, rfl, g1, g2, g3, g4, hb0.trans (hb2.mono hb0.size)⟩
  clear g1 g2 g3 g4
  go_wp2_with fail
  go_ret
  exact HR.out

set_option maxRecDepth 100000 in
set_option maxHeartbeats 1000000 in
theorem body7_15 (addr count to : Int) (words : List UInt16) (bits : List Bool) (and_ or_ : UInt16) (h k : Hd)  (hx kx tx : Hd) (w : World) (ha : AskIn w ⟨15, addr, count, to, words, bits, and_, or_⟩ h k) (hi : AnsIn w An.zero hx kx tx) (hr : Ak.right ⟨15, addr, count, to, words, bits, and_, or_⟩ = true) :
    Calls Tryz.prog 96 #[askV ⟨15, addr, count, to, words, bits, and_, or_⟩ h k, ansV An.zero hx kx tx] w (AnTextPost w (An.echo ⟨15, addr, count, to, words, bits, and_, or_⟩)) := by
  have hra := old_at7 (row_at w #[.int .i64 15, .int .i64 addr, .int .i64 count, .int .i64 to, .slice h.1 h.2.1 h.2.2, .slice k.1 k.2.1 k.2.2, u16v and_, u16v or_] 40 w.heap.size rfl) (.cells #[.int .i64 0, .slice hx.1 hx.2.1 hx.2.2, .slice kx.1 kx.2.1 kx.2.2, .slice tx.1 tx.2.1 tx.2.2] 46)
  have hrx := row_at (w.alloc (.cells #[.int .i64 15, .int .i64 addr, .int .i64 count, .int .i64 to, .slice h.1 h.2.1 h.2.2, .slice k.1 k.2.1 k.2.2, u16v and_, u16v or_] 40)) #[.int .i64 0, .slice hx.1 hx.2.1 hx.2.2, .slice kx.1 kx.2.1 kx.2.2, .slice tx.1 tx.2.1 tx.2.2] 46 (w.heap.size + 1) (by simp)
  have hb0 : Below w.heap.size w ((w.alloc (.cells #[.int .i64 15, .int .i64 addr, .int .i64 count, .int .i64 to, .slice h.1 h.2.1 h.2.2, .slice k.1 k.2.1 k.2.2, u16v and_, u16v or_] 40)).alloc (.cells #[.int .i64 0, .slice hx.1 hx.2.1 hx.2.2, .slice kx.1 kx.2.1 kx.2.2, .slice tx.1 tx.2.1 tx.2.2] 46)) := ((Below.refl _ _).alloc (Nat.le_refl _) _).alloc (by simp) _
  have hlt1 : w.heap.size + 1 < ((w.alloc (.cells #[.int .i64 15, .int .i64 addr, .int .i64 count, .int .i64 to, .slice h.1 h.2.1 h.2.2, .slice k.1 k.2.1 k.2.2, u16v and_, u16v or_] 40)).alloc (.cells #[.int .i64 0, .slice hx.1 hx.2.1 hx.2.2, .slice kx.1 kx.2.1 kx.2.2, .slice tx.1 tx.2.1 tx.2.2] 46)).heap.size := row_lt hrx
  have hlt0 : w.heap.size < ((w.alloc (.cells #[.int .i64 15, .int .i64 addr, .int .i64 count, .int .i64 to, .slice h.1 h.2.1 h.2.2, .slice k.1 k.2.1 k.2.2, u16v and_, u16v or_] 40)).alloc (.cells #[.int .i64 0, .slice hx.1 hx.2.1 hx.2.2, .slice kx.1 kx.2.1 kx.2.2, .slice tx.1 tx.2.1 tx.2.2] 46)).heap.size := row_lt hra
  have HI := Lib.hid (hi.below hb0)
  have HAI := Lib.hid (ha.below hb0)
  have HC := Lib.hid (echo7_any ⟨15, addr, count, to, words, bits, and_, or_⟩ h k _ HAI.out hr (by simp))
  rw [askV_eq] at HC
  clear ha hi
  rw [askV_eq, ansV_eq]
  go_enter Tryz.func96, Tryz.ntmps96
  obtain ⟨r0, r1, r2, r3, r4, r5, r6, r7⟩ := row_eight hra
  obtain ⟨x0, x1, x2, x3⟩ := row_quad hrx
  go_wp2_with fail
  refine HC.out.mono ?_
  intro e w2 hp
  obtain ⟨A2, n2, c2, rfl, g1, g2, g3, g4, hb2⟩ := hp
  have HR : Hid (AnTextPost w _ (.returned (.slice A2 n2 c2)) w2) := Lib.hid ⟨A2, n2, c2, rfl, g1, g2, g3, g4, hb0.trans (hb2.mono hb0.size)⟩
  clear g1 g2 g3 g4
  go_wp2_with fail
  go_ret
  exact HR.out

set_option maxRecDepth 100000 in
set_option maxHeartbeats 1000000 in
theorem body7_16 (addr count to : Int) (words : List UInt16) (bits : List Bool) (and_ or_ : UInt16) (h k : Hd)  (hx kx tx : Hd) (w : World) (ha : AskIn w ⟨16, addr, count, to, words, bits, and_, or_⟩ h k) (hi : AnsIn w An.zero hx kx tx) (hr : Ak.right ⟨16, addr, count, to, words, bits, and_, or_⟩ = true) :
    Calls Tryz.prog 96 #[askV ⟨16, addr, count, to, words, bits, and_, or_⟩ h k, ansV An.zero hx kx tx] w (AnTextPost w (An.echo ⟨16, addr, count, to, words, bits, and_, or_⟩)) := by
  have hra := old_at7 (row_at w #[.int .i64 16, .int .i64 addr, .int .i64 count, .int .i64 to, .slice h.1 h.2.1 h.2.2, .slice k.1 k.2.1 k.2.2, u16v and_, u16v or_] 40 w.heap.size rfl) (.cells #[.int .i64 0, .slice hx.1 hx.2.1 hx.2.2, .slice kx.1 kx.2.1 kx.2.2, .slice tx.1 tx.2.1 tx.2.2] 46)
  have hrx := row_at (w.alloc (.cells #[.int .i64 16, .int .i64 addr, .int .i64 count, .int .i64 to, .slice h.1 h.2.1 h.2.2, .slice k.1 k.2.1 k.2.2, u16v and_, u16v or_] 40)) #[.int .i64 0, .slice hx.1 hx.2.1 hx.2.2, .slice kx.1 kx.2.1 kx.2.2, .slice tx.1 tx.2.1 tx.2.2] 46 (w.heap.size + 1) (by simp)
  have hb0 : Below w.heap.size w ((w.alloc (.cells #[.int .i64 16, .int .i64 addr, .int .i64 count, .int .i64 to, .slice h.1 h.2.1 h.2.2, .slice k.1 k.2.1 k.2.2, u16v and_, u16v or_] 40)).alloc (.cells #[.int .i64 0, .slice hx.1 hx.2.1 hx.2.2, .slice kx.1 kx.2.1 kx.2.2, .slice tx.1 tx.2.1 tx.2.2] 46)) := ((Below.refl _ _).alloc (Nat.le_refl _) _).alloc (by simp) _
  have hlt1 : w.heap.size + 1 < ((w.alloc (.cells #[.int .i64 16, .int .i64 addr, .int .i64 count, .int .i64 to, .slice h.1 h.2.1 h.2.2, .slice k.1 k.2.1 k.2.2, u16v and_, u16v or_] 40)).alloc (.cells #[.int .i64 0, .slice hx.1 hx.2.1 hx.2.2, .slice kx.1 kx.2.1 kx.2.2, .slice tx.1 tx.2.1 tx.2.2] 46)).heap.size := row_lt hrx
  have hlt0 : w.heap.size < ((w.alloc (.cells #[.int .i64 16, .int .i64 addr, .int .i64 count, .int .i64 to, .slice h.1 h.2.1 h.2.2, .slice k.1 k.2.1 k.2.2, u16v and_, u16v or_] 40)).alloc (.cells #[.int .i64 0, .slice hx.1 hx.2.1 hx.2.2, .slice kx.1 kx.2.1 kx.2.2, .slice tx.1 tx.2.1 tx.2.2] 46)).heap.size := row_lt hra
  have HI := Lib.hid (hi.below hb0)
  have HAI := Lib.hid (ha.below hb0)
  have HC := Lib.hid (echo7_any ⟨16, addr, count, to, words, bits, and_, or_⟩ h k _ HAI.out hr (by simp))
  rw [askV_eq] at HC
  clear ha hi
  rw [askV_eq, ansV_eq]
  go_enter Tryz.func96, Tryz.ntmps96
  obtain ⟨r0, r1, r2, r3, r4, r5, r6, r7⟩ := row_eight hra
  obtain ⟨x0, x1, x2, x3⟩ := row_quad hrx
  go_wp2_with fail
  refine HC.out.mono ?_
  intro e w2 hp
  obtain ⟨A2, n2, c2, rfl, g1, g2, g3, g4, hb2⟩ := hp
  have HR : Hid (AnTextPost w _ (.returned (.slice A2 n2 c2)) w2) := Lib.hid ⟨A2, n2, c2, rfl, g1, g2, g3, g4, hb0.trans (hb2.mono hb0.size)⟩
  clear g1 g2 g3 g4
  go_wp2_with fail
  go_ret
  exact HR.out

theorem ahead_rest {a : Ask} {l : List ByteArray} (hc : a.code = 43) : An.text a ⟨0, [], [], l⟩ = An.b1 a.code.toNat :: (An.ahead a ++ (An.b1 l.length :: An.laid a.addr.toNat l)) := by
  unfold An.text
  rw [if_neg (by dsimp only; omega), if_neg (by omega), if_neg (by omega), if_neg (by omega), if_neg (by omega), hc]
  simp [An.ahead, An.b1]
/-- What body leaves, whatever the code. -/
theorem body7_any (a : Ask) (x : Ans) (h k hx kx tx : Hd) (w : World) (ha : AskIn w a h k) (hi : AnsIn w x hx kx tx) (hr : Ak.right a = true) (hs : An.Shape a x) (h0 : x.exc = 0) :
    ∃ r, An.text a x = An.b1 a.code.toNat :: r ∧ Calls Tryz.prog 96 #[askV a h k, ansV x hx kx tx] w (AnTextPost w r) := by
  obtain ⟨hc0, hc1⟩ := An.code_lt (An.ak_right hr).1
  have hsh := Ak.shape (An.ak_right hr).1
  cases hs with
  | exc n h1 h2 => dsimp only at h0; omega
  | bits l hc hl h1 =>
    refine ⟨An.b1 (Word.pack l).length :: Word.pack l, by unfold An.text; rw [if_neg (by dsimp only; omega), if_pos hc], ?_⟩
    obtain ⟨code, addr, count, to, words, bits, and_, or_⟩ := a
    rcases hc with hc | hc
    · obtain rfl : code = 1 := hc
      exact body7_1 addr count to words bits and_ or_ h k l hx kx tx w ha hi h1
    · obtain rfl : code = 2 := hc
      exact body7_2 addr count to words bits and_ or_ h k l hx kx tx w ha hi h1
  | words l hc hl h1 =>
    refine ⟨An.b1 (Word.bytes l).length :: Word.bytes l, by unfold An.text; rw [if_neg (by dsimp only; omega), if_neg (by omega), if_pos hc], ?_⟩
    obtain ⟨code, addr, count, to, words, bits, and_, or_⟩ := a
    rcases hc with hc | hc | hc
    · obtain rfl : code = 3 := hc
      exact body7_3 addr count to words bits and_ or_ h k l hx kx tx w ha hi h1
    · obtain rfl : code = 4 := hc
      exact body7_4 addr count to words bits and_ or_ h k l hx kx tx w ha hi h1
    · obtain rfl : code = 23 := hc
      exact body7_23 addr count to words bits and_ or_ h k l hx kx tx w ha hi h1
  | back hc =>
    refine ⟨An.echo a, An.text_echo hr hc, ?_⟩
    obtain ⟨code, addr, count, to, words, bits, and_, or_⟩ := a
    rcases hc with hc | hc | hc | hc | hc
    · obtain rfl : code = 5 := hc
      exact body7_5 addr count to words bits and_ or_ h k hx kx tx w ha hi hr
    · obtain rfl : code = 6 := hc
      exact body7_6 addr count to words bits and_ or_ h k hx kx tx w ha hi hr
    · obtain rfl : code = 22 := hc
      exact body7_22 addr count to words bits and_ or_ h k hx kx tx w ha hi hr
    · obtain rfl : code = 15 := hc
      exact body7_15 addr count to words bits and_ or_ h k hx kx tx w ha hi hr
    · obtain rfl : code = 16 := hc
      exact body7_16 addr count to words bits and_ or_ h k hx kx tx w ha hi hr
  | texts l hc h1 hsz h2 h3 =>
    refine ⟨_, ahead_rest hc, ?_⟩
    have htn : l.length = tx.2.1 := hi.tn
    rw [htn]
    cases hsh with
    | ident addr n g0 g1 n0 n1 => exact body7_43 addr n 0 [] [] 0 0 h k l hx kx tx w ha hi (by omega) (by omega) (by omega) h2 hsz h3
    | count c addr n hc' g0 g1 n0 n1 => dsimp only at hc; omega
    | _ => dsimp only at hc; omega

end Go.Proofs.YtlgmjnjhdamknaaGreat
