
/- A part of the proof of the law MasterDoes. -/
import Derived.Test.YtlgmjnjhdamknaaGreatMem
import Derived.Test.YtlgmjnjhdamknaaGreatRtu
import Derived.Test.YtlgmjnjhdamknaaGreatRm
import Derived.Test.YtlgmjnjhdamknaaGreatRs2
import Derived.Test.YtlgmjnjhdamknaaGreatR2
namespace Go.Proofs.YtlgmjnjhdamknaaGreat
open Go.RowKit

def AnTextPost (w : World) (l : List UInt8) (e : Ending) (w' : World) : Prop :=
  ∃ A n c, e = .returned (.slice A n c) ∧ l.length = n ∧ n ≤ c ∧ c ≤ maxLen ∧ Lies u8v w' A l ∧ Below w.heap.size w w'
theorem u8_ofNat (n : Nat) (h : n < 256) : u8v (UInt8.ofNat n) = .int .u8 (n : Int) := by
  unfold u8v
  rw [UInt8.toNat_ofNat']
  congr 1
  omega

set_option maxRecDepth 100000 in
set_option maxHeartbeats 1000000 in
theorem rtextE_any (a : Ask) (h k : Option Addr × Nat × Nat) (n : Int) (hx kx tx : Hd) (w : World) (hc0 : 1 ≤ a.code) (hc1 : a.code ≤ 43) (h0 : 1 ≤ n) (h1 : n ≤ 255) :
    Calls Tryz.prog 62 #[askV a h k, ansV ⟨n, [], [], []⟩ hx kx tx] w (AnTextPost w [An.b1 (128 + a.code.toNat), An.b1 n.toNat]) := by
  have e1 : IntKind.i64.wrap (128 + a.code) = 128 + a.code := by rw [IntKind.wrap_i64]; omega
  have e2 : (128 + a.code) % 256 = 128 + a.code := by omega
  have e3 : n % 256 = n := by omega
  have i0 : n > 0 := by omega
  obtain ⟨c, hc⟩ := Int.eq_ofNat_of_zero_le (show 0 ≤ a.code by omega)
  obtain ⟨m, rfl⟩ := Int.eq_ofNat_of_zero_le (show 0 ≤ n by omega)
  have hl : Hid (([.int .u8 (128 + a.code), .int .u8 (m : Int)] : List Value) = ([An.b1 (128 + a.code.toNat), An.b1 (m : Int).toNat] : List UInt8).map u8v) := qh (by
    simp only [List.map_cons, List.map_nil, An.b1]
    rw [u8_ofNat _ (by omega), u8_ofNat _ (by omega), hc]
    simp)
  clear hc
  unfold askV ansV
  go_enter Tryz.func62, Tryz.ntmps62
  go_wp2_with fail
  go_ret
  exact ⟨some ⟨w.heap.size + 1 + 1, 0, none⟩, 2, 2, rfl, rfl, zq _, by unfold maxLen; omega, lies_at _ _ _ _ _ hl.out (by simp), (((Below.refl _ w).alloc (zq _) _).alloc (by simp) _).alloc (by simp; omega) _⟩-- CODES
theorem old_at7 {w : World} {g : Nat} {o : Obj} (h : w.heap[g]? = some o) (o' : Obj) : (w.alloc o').heap[g]? = some o := row_later h ((Below.refl _ _).alloc (zq _) o')
theorem two_new7 (w : World) (A B : Array Value) (s t : TypeId) :
    ((w.alloc (.cells A s)).alloc (.cells B t)).heap[w.heap.size]? = some (.cells A s (0, 0)) ∧ ((w.alloc (.cells A s)).alloc (.cells B t)).heap[w.heap.size + 1]? = some (.cells B t (0, 0)) ∧ Below w.heap.size w ((w.alloc (.cells A s)).alloc (.cells B t)) ∧ w.heap.size + 1 < ((w.alloc (.cells A s)).alloc (.cells B t)).heap.size ∧ w.heap.size < ((w.alloc (.cells A s)).alloc (.cells B t)).heap.size := by
  have h1 := old_at7 (row_at w A s w.heap.size rfl) (.cells B t)
  have h2 := row_at (w.alloc (.cells A s)) B t (w.heap.size + 1) (by simp)
  exact ⟨h1, h2, ((Below.refl _ _).alloc (zq _) _).alloc (by simp) _, row_lt h2, row_lt h1⟩

set_option maxRecDepth 100000 in
set_option maxHeartbeats 1000000 in
theorem rtext7_5 (code : Int) (hcode : code = 5 ∨ code = 6 ∨ code = 22) (addr count to : Int) (words : List UInt16) (bits : List Bool) (and_ or_ : UInt16) (h k : Option Addr × Nat × Nat) (x : Ans) (hx kx tx : Hd) (w : World) (ha : AskIn w ⟨code, addr, count, to, words, bits, and_, or_⟩ h k) (hi : AnsIn w x hx kx tx) (he : x.exc = 0) :
    Calls Tryz.prog 62 #[askV ⟨code, addr, count, to, words, bits, and_, or_⟩ h k, ansV x hx kx tx] w (AnTextPost w (Ak.bytes ⟨code, addr, count, to, words, bits, and_, or_⟩)) := by
  obtain ⟨hra, hrx, hb0, -, -⟩ := two_new7 w #[.int .i64 code, .int .i64 addr, .int .i64 count, .int .i64 to, .slice h.1 h.2.1 h.2.2, .slice k.1 k.2.1 k.2.2, u16v and_, u16v or_] #[.int .i64 0, .slice hx.1 hx.2.1 hx.2.2, .slice kx.1 kx.2.1 kx.2.2, .slice tx.1 tx.2.1 tx.2.2] 58 51
  have HB6 := qh (rbytes6_any ⟨code, addr, count, to, words, bits, and_, or_⟩ h k ((w.alloc (.cells #[.int .i64 code, .int .i64 addr, .int .i64 count, .int .i64 to, .slice h.1 h.2.1 h.2.2, .slice k.1 k.2.1 k.2.2, u16v and_, u16v or_] 58)).alloc (.cells #[.int .i64 0, .slice hx.1 hx.2.1 hx.2.2, .slice kx.1 kx.2.1 kx.2.2, .slice tx.1 tx.2.1 tx.2.2] 51)) (ha.below hb0))
  rw [show askV ⟨code, addr, count, to, words, bits, and_, or_⟩ h k = .agg #[.int .i64 code, .int .i64 addr, .int .i64 count, .int .i64 to, .slice h.1 h.2.1 h.2.2, .slice k.1 k.2.1 k.2.2, u16v and_, u16v or_] from rfl] at HB6
  obtain ⟨xe, xb, xw, xt⟩ := x
  obtain rfl : xe = 0 := he
  have hi0 := hi
  rw [show askV ⟨code, addr, count, to, words, bits, and_, or_⟩ h k = .agg #[.int .i64 code, .int .i64 addr, .int .i64 count, .int .i64 to, .slice h.1 h.2.1 h.2.2, .slice k.1 k.2.1 k.2.2, u16v and_, u16v or_] from rfl, show ansV ⟨0, xb, xw, xt⟩ hx kx tx = .agg #[.int .i64 0, .slice hx.1 hx.2.1 hx.2.2, .slice kx.1 kx.2.1 kx.2.2, .slice tx.1 tx.2.1 tx.2.2] from rfl]
  rcases hcode with rfl | rfl | rfl
  all_goals
    go_enter Tryz.func62, Tryz.ntmps62
    go_wp2_with fail
    refine HB6.out.mono ?_
    rintro e w2 ⟨Ap, np, cp, rfl, hpl, hpo, hb2⟩
    have hbw2 := hb0.trans (hb2.mono hb0.size)
    have hra2 := row_later hra hb2
    have hrx2 := row_later hrx hb2
    have hlt1 : w.heap.size + 1 < w2.heap.size := row_lt hrx2
    have hlt0 : w.heap.size < w2.heap.size := by omega
    obtain ⟨r0, r1, r2, r3, r4, r5, r6, r7⟩ := row_eight hra2
    obtain ⟨x0, x1, x2, x3⟩ := row_quad hrx2
    have hi2 := hi.below hbw2
    clear HB6 hra hrx ha hi hi0
    go_wp2_with fail
    go_ret
    obtain ⟨q1, q2, _, q4⟩ := own_at hpo
    exact ⟨Ap, np, cp, rfl, hpl, q1, q2, q4, hbw2⟩

set_option maxRecDepth 100000 in
set_option maxHeartbeats 1000000 in
theorem rtext7_15 (addr count to : Int) (words : List UInt16) (bits : List Bool) (and_ or_ : UInt16) (h k : Option Addr × Nat × Nat) (x : Ans) (hx kx tx : Hd) (w : World) (ha : AskIn w ⟨15, addr, count, to, words, bits, and_, or_⟩ h k) (hi : AnsIn w x hx kx tx) (he : x.exc = 0) (h5 : 5 ≤ (Ak.bytes ⟨15, addr, count, to, words, bits, and_, or_⟩).length) :
    Calls Tryz.prog 62 #[askV ⟨15, addr, count, to, words, bits, and_, or_⟩ h k, ansV x hx kx tx] w (AnTextPost w ((Ak.bytes ⟨15, addr, count, to, words, bits, and_, or_⟩).take 5)) := by
  obtain ⟨hra, hrx, hb0, -, -⟩ := two_new7 w #[.int .i64 15, .int .i64 addr, .int .i64 count, .int .i64 to, .slice h.1 h.2.1 h.2.2, .slice k.1 k.2.1 k.2.2, u16v and_, u16v or_] #[.int .i64 0, .slice hx.1 hx.2.1 hx.2.2, .slice kx.1 kx.2.1 kx.2.2, .slice tx.1 tx.2.1 tx.2.2] 58 51
  have HB6 := qh (rbytes6_any ⟨15, addr, count, to, words, bits, and_, or_⟩ h k ((w.alloc (.cells #[.int .i64 15, .int .i64 addr, .int .i64 count, .int .i64 to, .slice h.1 h.2.1 h.2.2, .slice k.1 k.2.1 k.2.2, u16v and_, u16v or_] 58)).alloc (.cells #[.int .i64 0, .slice hx.1 hx.2.1 hx.2.2, .slice kx.1 kx.2.1 kx.2.2, .slice tx.1 tx.2.1 tx.2.2] 51)) (ha.below hb0))
  rw [show askV ⟨15, addr, count, to, words, bits, and_, or_⟩ h k = .agg #[.int .i64 15, .int .i64 addr, .int .i64 count, .int .i64 to, .slice h.1 h.2.1 h.2.2, .slice k.1 k.2.1 k.2.2, u16v and_, u16v or_] from rfl] at HB6
  obtain ⟨xe, xb, xw, xt⟩ := x
  obtain rfl : xe = 0 := he
  have hi0 := hi
  rw [show askV ⟨15, addr, count, to, words, bits, and_, or_⟩ h k = .agg #[.int .i64 15, .int .i64 addr, .int .i64 count, .int .i64 to, .slice h.1 h.2.1 h.2.2, .slice k.1 k.2.1 k.2.2, u16v and_, u16v or_] from rfl, show ansV ⟨0, xb, xw, xt⟩ hx kx tx = .agg #[.int .i64 0, .slice hx.1 hx.2.1 hx.2.2, .slice kx.1 kx.2.1 kx.2.2, .slice tx.1 tx.2.1 tx.2.2] from rfl]
  go_enter Tryz.func62, Tryz.ntmps62
  go_wp2_with fail
  refine HB6.out.mono ?_
  rintro e w2 ⟨Ap, np, cp, rfl, hpl, hpo, hb2⟩
  have hbw2 := hb0.trans (hb2.mono hb0.size)
  have hra2 := row_later hra hb2
  have hrx2 := row_later hrx hb2
  have hlt1 : w.heap.size + 1 < w2.heap.size := row_lt hrx2
  have hlt0 : w.heap.size < w2.heap.size := by omega
  obtain ⟨r0, r1, r2, r3, r4, r5, r6, r7⟩ := row_eight hra2
  obtain ⟨x0, x1, x2, x3⟩ := row_quad hrx2
  have hi2 := hi.below hbw2
  clear HB6 hra hrx ha hi hi0
  obtain ⟨q1, q2, _, q4⟩ := own_at hpo
  have h5' : 5 ≤ np := by omega
  have i1 : (5 : Int) ≤ (np : Int) := by omega
  have i2 : (5 : Int) ≤ (cp : Int) := by omega
  have HL := qh (q4.take 5)
  have HN : Hid (((Ak.bytes ⟨15, addr, count, to, words, bits, and_, or_⟩).take 5).length = 5) := qh (by rw [List.length_take]; omega)
  go_wp2_with fail
  go_ret
  exact ⟨Ap, 5, cp, rfl, HN.out, by omega, q2, HL.out, hbw2⟩

set_option maxRecDepth 100000 in
set_option maxHeartbeats 1000000 in
theorem rtext7_16 (addr count to : Int) (words : List UInt16) (bits : List Bool) (and_ or_ : UInt16) (h k : Option Addr × Nat × Nat) (x : Ans) (hx kx tx : Hd) (w : World) (ha : AskIn w ⟨16, addr, count, to, words, bits, and_, or_⟩ h k) (hi : AnsIn w x hx kx tx) (he : x.exc = 0) (h5 : 5 ≤ (Ak.bytes ⟨16, addr, count, to, words, bits, and_, or_⟩).length) :
    Calls Tryz.prog 62 #[askV ⟨16, addr, count, to, words, bits, and_, or_⟩ h k, ansV x hx kx tx] w (AnTextPost w ((Ak.bytes ⟨16, addr, count, to, words, bits, and_, or_⟩).take 5)) := by
  obtain ⟨hra, hrx, hb0, -, -⟩ := two_new7 w #[.int .i64 16, .int .i64 addr, .int .i64 count, .int .i64 to, .slice h.1 h.2.1 h.2.2, .slice k.1 k.2.1 k.2.2, u16v and_, u16v or_] #[.int .i64 0, .slice hx.1 hx.2.1 hx.2.2, .slice kx.1 kx.2.1 kx.2.2, .slice tx.1 tx.2.1 tx.2.2] 58 51
  have HB6 := qh (rbytes6_any ⟨16, addr, count, to, words, bits, and_, or_⟩ h k ((w.alloc (.cells #[.int .i64 16, .int .i64 addr, .int .i64 count, .int .i64 to, .slice h.1 h.2.1 h.2.2, .slice k.1 k.2.1 k.2.2, u16v and_, u16v or_] 58)).alloc (.cells #[.int .i64 0, .slice hx.1 hx.2.1 hx.2.2, .slice kx.1 kx.2.1 kx.2.2, .slice tx.1 tx.2.1 tx.2.2] 51)) (ha.below hb0))
  rw [show askV ⟨16, addr, count, to, words, bits, and_, or_⟩ h k = .agg #[.int .i64 16, .int .i64 addr, .int .i64 count, .int .i64 to, .slice h.1 h.2.1 h.2.2, .slice k.1 k.2.1 k.2.2, u16v and_, u16v or_] from rfl] at HB6
  obtain ⟨xe, xb, xw, xt⟩ := x
  obtain rfl : xe = 0 := he
  have hi0 := hi
  rw [show askV ⟨16, addr, count, to, words, bits, and_, or_⟩ h k = .agg #[.int .i64 16, .int .i64 addr, .int .i64 count, .int .i64 to, .slice h.1 h.2.1 h.2.2, .slice k.1 k.2.1 k.2.2, u16v and_, u16v or_] from rfl, show ansV ⟨0, xb, xw, xt⟩ hx kx tx = .agg #[.int .i64 0, .slice hx.1 hx.2.1 hx.2.2, .slice kx.1 kx.2.1 kx.2.2, .slice tx.1 tx.2.1 tx.2.2] from rfl]
  go_enter Tryz.func62, Tryz.ntmps62
  go_wp2_with fail
  refine HB6.out.mono ?_
  rintro e w2 ⟨Ap, np, cp, rfl, hpl, hpo, hb2⟩
  have hbw2 := hb0.trans (hb2.mono hb0.size)
  have hra2 := row_later hra hb2
  have hrx2 := row_later hrx hb2
  have hlt1 : w.heap.size + 1 < w2.heap.size := row_lt hrx2
  have hlt0 : w.heap.size < w2.heap.size := by omega
  obtain ⟨r0, r1, r2, r3, r4, r5, r6, r7⟩ := row_eight hra2
  obtain ⟨x0, x1, x2, x3⟩ := row_quad hrx2
  have hi2 := hi.below hbw2
  clear HB6 hra hrx ha hi hi0
  obtain ⟨q1, q2, _, q4⟩ := own_at hpo
  have h5' : 5 ≤ np := by omega
  have i1 : (5 : Int) ≤ (np : Int) := by omega
  have i2 : (5 : Int) ≤ (cp : Int) := by omega
  have HL := qh (q4.take 5)
  have HN : Hid (((Ak.bytes ⟨16, addr, count, to, words, bits, and_, or_⟩).take 5).length = 5) := qh (by rw [List.length_take]; omega)
  go_wp2_with fail
  go_ret
  exact ⟨Ap, 5, cp, rfl, HN.out, by omega, q2, HL.out, hbw2⟩

set_option maxRecDepth 100000 in
set_option maxHeartbeats 1000000 in
theorem rtext7_1 (addr count to : Int) (words : List UInt16) (bits : List Bool) (and_ or_ : UInt16) (h k : Option Addr × Nat × Nat) (x : Ans) (hx kx tx : Hd) (w : World) (ha : AskIn w ⟨1, addr, count, to, words, bits, and_, or_⟩ h k) (hi : AnsIn w x hx kx tx) (he : x.exc = 0) (hm : x.bits.length ≤ 2000) :
    Calls Tryz.prog 62 #[askV ⟨1, addr, count, to, words, bits, and_, or_⟩ h k, ansV x hx kx tx] w (AnTextPost w (An.b1 1 :: An.b1 (Word.pack x.bits).length :: Word.pack x.bits)) := by
  obtain ⟨hra, hrx, hb0, -, -⟩ := two_new7 w #[.int .i64 1, .int .i64 addr, .int .i64 count, .int .i64 to, .slice h.1 h.2.1 h.2.2, .slice k.1 k.2.1 k.2.2, u16v and_, u16v or_] #[.int .i64 0, .slice hx.1 hx.2.1 hx.2.2, .slice kx.1 kx.2.1 kx.2.2, .slice tx.1 tx.2.1 tx.2.2] 58 51
  have HB6 := qh (rbytes6_any ⟨1, addr, count, to, words, bits, and_, or_⟩ h k ((w.alloc (.cells #[.int .i64 1, .int .i64 addr, .int .i64 count, .int .i64 to, .slice h.1 h.2.1 h.2.2, .slice k.1 k.2.1 k.2.2, u16v and_, u16v or_] 58)).alloc (.cells #[.int .i64 0, .slice hx.1 hx.2.1 hx.2.2, .slice kx.1 kx.2.1 kx.2.2, .slice tx.1 tx.2.1 tx.2.2] 51)) (ha.below hb0))
  rw [show askV ⟨1, addr, count, to, words, bits, and_, or_⟩ h k = .agg #[.int .i64 1, .int .i64 addr, .int .i64 count, .int .i64 to, .slice h.1 h.2.1 h.2.2, .slice k.1 k.2.1 k.2.2, u16v and_, u16v or_] from rfl] at HB6
  obtain ⟨xe, xb, xw, xt⟩ := x
  obtain rfl : xe = 0 := he
  have hi0 := hi
  rw [show askV ⟨1, addr, count, to, words, bits, and_, or_⟩ h k = .agg #[.int .i64 1, .int .i64 addr, .int .i64 count, .int .i64 to, .slice h.1 h.2.1 h.2.2, .slice k.1 k.2.1 k.2.2, u16v and_, u16v or_] from rfl, show ansV ⟨0, xb, xw, xt⟩ hx kx tx = .agg #[.int .i64 0, .slice hx.1 hx.2.1 hx.2.2, .slice kx.1 kx.2.1 kx.2.2, .slice tx.1 tx.2.1 tx.2.2] from rfl]
  go_enter Tryz.func62, Tryz.ntmps62
  go_wp2_with fail
  refine HB6.out.mono ?_
  rintro e w2 ⟨Ap, np, cp, rfl, hpl, hpo, hb2⟩
  have hbw2 := hb0.trans (hb2.mono hb0.size)
  have hra2 := row_later hra hb2
  have hrx2 := row_later hrx hb2
  have hlt1 : w.heap.size + 1 < w2.heap.size := row_lt hrx2
  have hlt0 : w.heap.size < w2.heap.size := by omega
  obtain ⟨r0, r1, r2, r3, r4, r5, r6, r7⟩ := row_eight hra2
  obtain ⟨x0, x1, x2, x3⟩ := row_quad hrx2
  have hi2 := hi.below hbw2
  clear HB6 hra hrx ha hi hi0
  have hln : hx.2.1 ≤ 2000 := by have h1 := hi2.hn; simp only at h1 hm; omega
  have HPK := qh (rpack_own hx.1 hx.2.1 hx.2.2 xb hi2.hn (by omega) w2 hi2.hl)
  have HN : Hid ((Word.pack xb).length = ((hx.2.1 + 7) / 8)) := qh (by rw [Word.pack_length]; have h1 := hi2.hn; simp only at h1; rw [h1])
  clear hm hi2 hpl hpo
  go_wp2_with fail
  refine HPK.out.mono ?_
  rintro e w3 ⟨Aq, cq, rfl, hqo, hb3⟩
  have hbw3 := hbw2.trans (hb3.mono hbw2.size)
  obtain ⟨q1, q2, q3, q4⟩ := own_at hqo
  obtain ⟨r0, r1, r2, r3, r4, r5, r6, r7⟩ := row_eight (row_later hra2 hb3)
  have hlt2 : w.heap.size < w3.heap.size := row_lt (row_later hra2 hb3)
  obtain ⟨L, hL⟩ : ∃ L : Nat, ((hx.2.1 + 7) / 8) = L := ⟨_, rfl⟩
  rw [hL] at HN q1 hqo ⊢
  have hL255 : L ≤ 255 := by omega
  have hLI : ((L : Nat) : Int) % 256 = (L : Int) := by omega
  have hOW : (w3.alloc (.cells #[.int .u8 1, .int .u8 (L : Int)] 5)).ownsRow w3.heap.size 5 1 (.slice (some ⟨w3.heap.size, 0, none⟩) 2 2) 2 ([An.b1 1, An.b1 L].map u8v) := own_lit u8v w3 _ _ _ _ 2 _ (by simp only [List.map_cons, List.map_nil, An.b1]; rw [u8_ofNat L (by omega)]; rfl) rfl (zq _) rfl (by unfold maxLen; omega)
  have hlq := (show Lies u8v w3 Aq (Word.pack xb) from q4).alloc (.cells #[.int .u8 1, .int .u8 (L : Int)] 5)
  clear hL q4
  go_wp2_with (at_builtin; go_must (refine wpList_append_lies kit8 one8 _ rfl (.tmp 41) (.tmp 42) rfl w3.heap.size _ 2 [An.b1 1, An.b1 L] rfl hOW Aq L cq (Word.pack xb) rfl HN.out hlq (by omega) (by unfold maxLen; omega) (by simp) ?_; intro A9 c9 w9 hown9 hg9 hb9))
  go_ret
  obtain ⟨t1, t2, t3, t4⟩ := own_at hown9
  refine ⟨A9, 2 + L, c9, rfl, ?_, t1, t2, ?_, hbw3.trans ((((Below.refl _ w3).alloc (zq _) _).trans hb9).mono hbw3.size)⟩
  · simp only [List.length_cons, HN.out]; omega
  · rw [HN.out]; exact t4

set_option maxRecDepth 100000 in
set_option maxHeartbeats 1000000 in
theorem rtext7_2 (addr count to : Int) (words : List UInt16) (bits : List Bool) (and_ or_ : UInt16) (h k : Option Addr × Nat × Nat) (x : Ans) (hx kx tx : Hd) (w : World) (ha : AskIn w ⟨2, addr, count, to, words, bits, and_, or_⟩ h k) (hi : AnsIn w x hx kx tx) (he : x.exc = 0) (hm : x.bits.length ≤ 2000) :
    Calls Tryz.prog 62 #[askV ⟨2, addr, count, to, words, bits, and_, or_⟩ h k, ansV x hx kx tx] w (AnTextPost w (An.b1 2 :: An.b1 (Word.pack x.bits).length :: Word.pack x.bits)) := by
  obtain ⟨hra, hrx, hb0, -, -⟩ := two_new7 w #[.int .i64 2, .int .i64 addr, .int .i64 count, .int .i64 to, .slice h.1 h.2.1 h.2.2, .slice k.1 k.2.1 k.2.2, u16v and_, u16v or_] #[.int .i64 0, .slice hx.1 hx.2.1 hx.2.2, .slice kx.1 kx.2.1 kx.2.2, .slice tx.1 tx.2.1 tx.2.2] 58 51
  have HB6 := qh (rbytes6_any ⟨2, addr, count, to, words, bits, and_, or_⟩ h k ((w.alloc (.cells #[.int .i64 2, .int .i64 addr, .int .i64 count, .int .i64 to, .slice h.1 h.2.1 h.2.2, .slice k.1 k.2.1 k.2.2, u16v and_, u16v or_] 58)).alloc (.cells #[.int .i64 0, .slice hx.1 hx.2.1 hx.2.2, .slice kx.1 kx.2.1 kx.2.2, .slice tx.1 tx.2.1 tx.2.2] 51)) (ha.below hb0))
  rw [show askV ⟨2, addr, count, to, words, bits, and_, or_⟩ h k = .agg #[.int .i64 2, .int .i64 addr, .int .i64 count, .int .i64 to, .slice h.1 h.2.1 h.2.2, .slice k.1 k.2.1 k.2.2, u16v and_, u16v or_] from rfl] at HB6
  obtain ⟨xe, xb, xw, xt⟩ := x
  obtain rfl : xe = 0 := he
  have hi0 := hi
  rw [show askV ⟨2, addr, count, to, words, bits, and_, or_⟩ h k = .agg #[.int .i64 2, .int .i64 addr, .int .i64 count, .int .i64 to, .slice h.1 h.2.1 h.2.2, .slice k.1 k.2.1 k.2.2, u16v and_, u16v or_] from rfl, show ansV ⟨0, xb, xw, xt⟩ hx kx tx = .agg #[.int .i64 0, .slice hx.1 hx.2.1 hx.2.2, .slice kx.1 kx.2.1 kx.2.2, .slice tx.1 tx.2.1 tx.2.2] from rfl]
  go_enter Tryz.func62, Tryz.ntmps62
  go_wp2_with fail
  refine HB6.out.mono ?_
  rintro e w2 ⟨Ap, np, cp, rfl, hpl, hpo, hb2⟩
  have hbw2 := hb0.trans (hb2.mono hb0.size)
  have hra2 := row_later hra hb2
  have hrx2 := row_later hrx hb2
  have hlt1 : w.heap.size + 1 < w2.heap.size := row_lt hrx2
  have hlt0 : w.heap.size < w2.heap.size := by omega
  obtain ⟨r0, r1, r2, r3, r4, r5, r6, r7⟩ := row_eight hra2
  obtain ⟨x0, x1, x2, x3⟩ := row_quad hrx2
  have hi2 := hi.below hbw2
  clear HB6 hra hrx ha hi hi0
  have hln : hx.2.1 ≤ 2000 := by have h1 := hi2.hn; simp only at h1 hm; omega
  have HPK := qh (rpack_own hx.1 hx.2.1 hx.2.2 xb hi2.hn (by omega) w2 hi2.hl)
  have HN : Hid ((Word.pack xb).length = ((hx.2.1 + 7) / 8)) := qh (by rw [Word.pack_length]; have h1 := hi2.hn; simp only at h1; rw [h1])
  clear hm hi2 hpl hpo
  go_wp2_with fail
  refine HPK.out.mono ?_
  rintro e w3 ⟨Aq, cq, rfl, hqo, hb3⟩
  have hbw3 := hbw2.trans (hb3.mono hbw2.size)
  obtain ⟨q1, q2, q3, q4⟩ := own_at hqo
  obtain ⟨r0, r1, r2, r3, r4, r5, r6, r7⟩ := row_eight (row_later hra2 hb3)
  have hlt2 : w.heap.size < w3.heap.size := row_lt (row_later hra2 hb3)
  obtain ⟨L, hL⟩ : ∃ L : Nat, ((hx.2.1 + 7) / 8) = L := ⟨_, rfl⟩
  rw [hL] at HN q1 hqo ⊢
  have hL255 : L ≤ 255 := by omega
  have hLI : ((L : Nat) : Int) % 256 = (L : Int) := by omega
  have hOW : (w3.alloc (.cells #[.int .u8 2, .int .u8 (L : Int)] 5)).ownsRow w3.heap.size 5 1 (.slice (some ⟨w3.heap.size, 0, none⟩) 2 2) 2 ([An.b1 2, An.b1 L].map u8v) := own_lit u8v w3 _ _ _ _ 2 _ (by simp only [List.map_cons, List.map_nil, An.b1]; rw [u8_ofNat L (by omega)]; rfl) rfl (zq _) rfl (by unfold maxLen; omega)
  have hlq := (show Lies u8v w3 Aq (Word.pack xb) from q4).alloc (.cells #[.int .u8 2, .int .u8 (L : Int)] 5)
  clear hL q4
  go_wp2_with (at_builtin; go_must (refine wpList_append_lies kit8 one8 _ rfl (.tmp 41) (.tmp 42) rfl w3.heap.size _ 2 [An.b1 2, An.b1 L] rfl hOW Aq L cq (Word.pack xb) rfl HN.out hlq (by omega) (by unfold maxLen; omega) (by simp) ?_; intro A9 c9 w9 hown9 hg9 hb9))
  go_ret
  obtain ⟨t1, t2, t3, t4⟩ := own_at hown9
  refine ⟨A9, 2 + L, c9, rfl, ?_, t1, t2, ?_, hbw3.trans ((((Below.refl _ w3).alloc (zq _) _).trans hb9).mono hbw3.size)⟩
  · simp only [List.length_cons, HN.out]; omega
  · rw [HN.out]; exact t4

set_option maxRecDepth 100000 in
set_option maxHeartbeats 1000000 in
theorem rtext7_3 (addr count to : Int) (words : List UInt16) (bits : List Bool) (and_ or_ : UInt16) (h k : Option Addr × Nat × Nat) (x : Ans) (hx kx tx : Hd) (w : World) (ha : AskIn w ⟨3, addr, count, to, words, bits, and_, or_⟩ h k) (hi : AnsIn w x hx kx tx) (he : x.exc = 0) (hm : x.words.length ≤ 125) :
    Calls Tryz.prog 62 #[askV ⟨3, addr, count, to, words, bits, and_, or_⟩ h k, ansV x hx kx tx] w (AnTextPost w (An.b1 3 :: An.b1 (Word.bytes x.words).length :: Word.bytes x.words)) := by
  obtain ⟨hra, hrx, hb0, -, -⟩ := two_new7 w #[.int .i64 3, .int .i64 addr, .int .i64 count, .int .i64 to, .slice h.1 h.2.1 h.2.2, .slice k.1 k.2.1 k.2.2, u16v and_, u16v or_] #[.int .i64 0, .slice hx.1 hx.2.1 hx.2.2, .slice kx.1 kx.2.1 kx.2.2, .slice tx.1 tx.2.1 tx.2.2] 58 51
  have HB6 := qh (rbytes6_any ⟨3, addr, count, to, words, bits, and_, or_⟩ h k ((w.alloc (.cells #[.int .i64 3, .int .i64 addr, .int .i64 count, .int .i64 to, .slice h.1 h.2.1 h.2.2, .slice k.1 k.2.1 k.2.2, u16v and_, u16v or_] 58)).alloc (.cells #[.int .i64 0, .slice hx.1 hx.2.1 hx.2.2, .slice kx.1 kx.2.1 kx.2.2, .slice tx.1 tx.2.1 tx.2.2] 51)) (ha.below hb0))
  rw [show askV ⟨3, addr, count, to, words, bits, and_, or_⟩ h k = .agg #[.int .i64 3, .int .i64 addr, .int .i64 count, .int .i64 to, .slice h.1 h.2.1 h.2.2, .slice k.1 k.2.1 k.2.2, u16v and_, u16v or_] from rfl] at HB6
  obtain ⟨xe, xb, xw, xt⟩ := x
  obtain rfl : xe = 0 := he
  have hi0 := hi
  rw [show askV ⟨3, addr, count, to, words, bits, and_, or_⟩ h k = .agg #[.int .i64 3, .int .i64 addr, .int .i64 count, .int .i64 to, .slice h.1 h.2.1 h.2.2, .slice k.1 k.2.1 k.2.2, u16v and_, u16v or_] from rfl, show ansV ⟨0, xb, xw, xt⟩ hx kx tx = .agg #[.int .i64 0, .slice hx.1 hx.2.1 hx.2.2, .slice kx.1 kx.2.1 kx.2.2, .slice tx.1 tx.2.1 tx.2.2] from rfl]
  go_enter Tryz.func62, Tryz.ntmps62
  go_wp2_with fail
  refine HB6.out.mono ?_
  rintro e w2 ⟨Ap, np, cp, rfl, hpl, hpo, hb2⟩
  have hbw2 := hb0.trans (hb2.mono hb0.size)
  have hra2 := row_later hra hb2
  have hrx2 := row_later hrx hb2
  have hlt1 : w.heap.size + 1 < w2.heap.size := row_lt hrx2
  have hlt0 : w.heap.size < w2.heap.size := by omega
  obtain ⟨r0, r1, r2, r3, r4, r5, r6, r7⟩ := row_eight hra2
  obtain ⟨x0, x1, x2, x3⟩ := row_quad hrx2
  have hi2 := hi.below hbw2
  clear HB6 hra hrx ha hi hi0
  have hln : kx.2.1 ≤ 125 := by have h1 := hi2.kn; simp only at h1 hm; omega
  have HPK := qh (rbytes_own kx.1 kx.2.1 kx.2.2 xw hi2.kn (by omega) w2 hi2.kl)
  have HN : Hid ((Word.bytes xw).length = (2 * kx.2.1)) := qh (by rw [Word.bytes_length]; have h1 := hi2.kn; simp only at h1; rw [h1])
  clear hm hi2 hpl hpo
  go_wp2_with fail
  refine HPK.out.mono ?_
  rintro e w3 ⟨Aq, cq, rfl, hqo, hb3⟩
  have hbw3 := hbw2.trans (hb3.mono hbw2.size)
  obtain ⟨q1, q2, q3, q4⟩ := own_at hqo
  obtain ⟨r0, r1, r2, r3, r4, r5, r6, r7⟩ := row_eight (row_later hra2 hb3)
  have hlt2 : w.heap.size < w3.heap.size := row_lt (row_later hra2 hb3)
  obtain ⟨L, hL⟩ : ∃ L : Nat, (2 * kx.2.1) = L := ⟨_, rfl⟩
  rw [hL] at HN q1 hqo ⊢
  have hL255 : L ≤ 255 := by omega
  have hLI : ((L : Nat) : Int) % 256 = (L : Int) := by omega
  have hOW : (w3.alloc (.cells #[.int .u8 3, .int .u8 (L : Int)] 5)).ownsRow w3.heap.size 5 1 (.slice (some ⟨w3.heap.size, 0, none⟩) 2 2) 2 ([An.b1 3, An.b1 L].map u8v) := own_lit u8v w3 _ _ _ _ 2 _ (by simp only [List.map_cons, List.map_nil, An.b1]; rw [u8_ofNat L (by omega)]; rfl) rfl (zq _) rfl (by unfold maxLen; omega)
  have hlq := (show Lies u8v w3 Aq (Word.bytes xw) from q4).alloc (.cells #[.int .u8 3, .int .u8 (L : Int)] 5)
  clear hL q4
  go_wp2_with (at_builtin; go_must (refine wpList_append_lies kit8 one8 _ rfl (.tmp 57) (.tmp 58) rfl w3.heap.size _ 2 [An.b1 3, An.b1 L] rfl hOW Aq L cq (Word.bytes xw) rfl HN.out hlq (by omega) (by unfold maxLen; omega) (by simp) ?_; intro A9 c9 w9 hown9 hg9 hb9))
  go_ret
  obtain ⟨t1, t2, t3, t4⟩ := own_at hown9
  refine ⟨A9, 2 + L, c9, rfl, ?_, t1, t2, ?_, hbw3.trans ((((Below.refl _ w3).alloc (zq _) _).trans hb9).mono hbw3.size)⟩
  · simp only [List.length_cons, HN.out]; omega
  · rw [HN.out]; exact t4

set_option maxRecDepth 100000 in
set_option maxHeartbeats 1000000 in
theorem rtext7_4 (addr count to : Int) (words : List UInt16) (bits : List Bool) (and_ or_ : UInt16) (h k : Option Addr × Nat × Nat) (x : Ans) (hx kx tx : Hd) (w : World) (ha : AskIn w ⟨4, addr, count, to, words, bits, and_, or_⟩ h k) (hi : AnsIn w x hx kx tx) (he : x.exc = 0) (hm : x.words.length ≤ 125) :
    Calls Tryz.prog 62 #[askV ⟨4, addr, count, to, words, bits, and_, or_⟩ h k, ansV x hx kx tx] w (AnTextPost w (An.b1 4 :: An.b1 (Word.bytes x.words).length :: Word.bytes x.words)) := by
  obtain ⟨hra, hrx, hb0, -, -⟩ := two_new7 w #[.int .i64 4, .int .i64 addr, .int .i64 count, .int .i64 to, .slice h.1 h.2.1 h.2.2, .slice k.1 k.2.1 k.2.2, u16v and_, u16v or_] #[.int .i64 0, .slice hx.1 hx.2.1 hx.2.2, .slice kx.1 kx.2.1 kx.2.2, .slice tx.1 tx.2.1 tx.2.2] 58 51
  have HB6 := qh (rbytes6_any ⟨4, addr, count, to, words, bits, and_, or_⟩ h k ((w.alloc (.cells #[.int .i64 4, .int .i64 addr, .int .i64 count, .int .i64 to, .slice h.1 h.2.1 h.2.2, .slice k.1 k.2.1 k.2.2, u16v and_, u16v or_] 58)).alloc (.cells #[.int .i64 0, .slice hx.1 hx.2.1 hx.2.2, .slice kx.1 kx.2.1 kx.2.2, .slice tx.1 tx.2.1 tx.2.2] 51)) (ha.below hb0))
  rw [show askV ⟨4, addr, count, to, words, bits, and_, or_⟩ h k = .agg #[.int .i64 4, .int .i64 addr, .int .i64 count, .int .i64 to, .slice h.1 h.2.1 h.2.2, .slice k.1 k.2.1 k.2.2, u16v and_, u16v or_] from rfl] at HB6
  obtain ⟨xe, xb, xw, xt⟩ := x
  obtain rfl : xe = 0 := he
  have hi0 := hi
  rw [show askV ⟨4, addr, count, to, words, bits, and_, or_⟩ h k = .agg #[.int .i64 4, .int .i64 addr, .int .i64 count, .int .i64 to, .slice h.1 h.2.1 h.2.2, .slice k.1 k.2.1 k.2.2, u16v and_, u16v or_] from rfl, show ansV ⟨0, xb, xw, xt⟩ hx kx tx = .agg #[.int .i64 0, .slice hx.1 hx.2.1 hx.2.2, .slice kx.1 kx.2.1 kx.2.2, .slice tx.1 tx.2.1 tx.2.2] from rfl]
  go_enter Tryz.func62, Tryz.ntmps62
  go_wp2_with fail
  refine HB6.out.mono ?_
  rintro e w2 ⟨Ap, np, cp, rfl, hpl, hpo, hb2⟩
  have hbw2 := hb0.trans (hb2.mono hb0.size)
  have hra2 := row_later hra hb2
  have hrx2 := row_later hrx hb2
  have hlt1 : w.heap.size + 1 < w2.heap.size := row_lt hrx2
  have hlt0 : w.heap.size < w2.heap.size := by omega
  obtain ⟨r0, r1, r2, r3, r4, r5, r6, r7⟩ := row_eight hra2
  obtain ⟨x0, x1, x2, x3⟩ := row_quad hrx2
  have hi2 := hi.below hbw2
  clear HB6 hra hrx ha hi hi0
  have hln : kx.2.1 ≤ 125 := by have h1 := hi2.kn; simp only at h1 hm; omega
  have HPK := qh (rbytes_own kx.1 kx.2.1 kx.2.2 xw hi2.kn (by omega) w2 hi2.kl)
  have HN : Hid ((Word.bytes xw).length = (2 * kx.2.1)) := qh (by rw [Word.bytes_length]; have h1 := hi2.kn; simp only at h1; rw [h1])
  clear hm hi2 hpl hpo
  go_wp2_with fail
  refine HPK.out.mono ?_
  rintro e w3 ⟨Aq, cq, rfl, hqo, hb3⟩
  have hbw3 := hbw2.trans (hb3.mono hbw2.size)
  obtain ⟨q1, q2, q3, q4⟩ := own_at hqo
  obtain ⟨r0, r1, r2, r3, r4, r5, r6, r7⟩ := row_eight (row_later hra2 hb3)
  have hlt2 : w.heap.size < w3.heap.size := row_lt (row_later hra2 hb3)
  obtain ⟨L, hL⟩ : ∃ L : Nat, (2 * kx.2.1) = L := ⟨_, rfl⟩
  rw [hL] at HN q1 hqo ⊢
  have hL255 : L ≤ 255 := by omega
  have hLI : ((L : Nat) : Int) % 256 = (L : Int) := by omega
  have hOW : (w3.alloc (.cells #[.int .u8 4, .int .u8 (L : Int)] 5)).ownsRow w3.heap.size 5 1 (.slice (some ⟨w3.heap.size, 0, none⟩) 2 2) 2 ([An.b1 4, An.b1 L].map u8v) := own_lit u8v w3 _ _ _ _ 2 _ (by simp only [List.map_cons, List.map_nil, An.b1]; rw [u8_ofNat L (by omega)]; rfl) rfl (zq _) rfl (by unfold maxLen; omega)
  have hlq := (show Lies u8v w3 Aq (Word.bytes xw) from q4).alloc (.cells #[.int .u8 4, .int .u8 (L : Int)] 5)
  clear hL q4
  go_wp2_with (at_builtin; go_must (refine wpList_append_lies kit8 one8 _ rfl (.tmp 57) (.tmp 58) rfl w3.heap.size _ 2 [An.b1 4, An.b1 L] rfl hOW Aq L cq (Word.bytes xw) rfl HN.out hlq (by omega) (by unfold maxLen; omega) (by simp) ?_; intro A9 c9 w9 hown9 hg9 hb9))
  go_ret
  obtain ⟨t1, t2, t3, t4⟩ := own_at hown9
  refine ⟨A9, 2 + L, c9, rfl, ?_, t1, t2, ?_, hbw3.trans ((((Below.refl _ w3).alloc (zq _) _).trans hb9).mono hbw3.size)⟩
  · simp only [List.length_cons, HN.out]; omega
  · rw [HN.out]; exact t4

set_option maxRecDepth 100000 in
set_option maxHeartbeats 1000000 in
theorem rtext7_23 (addr count to : Int) (words : List UInt16) (bits : List Bool) (and_ or_ : UInt16) (h k : Option Addr × Nat × Nat) (x : Ans) (hx kx tx : Hd) (w : World) (ha : AskIn w ⟨23, addr, count, to, words, bits, and_, or_⟩ h k) (hi : AnsIn w x hx kx tx) (he : x.exc = 0) (hm : x.words.length ≤ 125) :
    Calls Tryz.prog 62 #[askV ⟨23, addr, count, to, words, bits, and_, or_⟩ h k, ansV x hx kx tx] w (AnTextPost w (An.b1 23 :: An.b1 (Word.bytes x.words).length :: Word.bytes x.words)) := by
  obtain ⟨hra, hrx, hb0, -, -⟩ := two_new7 w #[.int .i64 23, .int .i64 addr, .int .i64 count, .int .i64 to, .slice h.1 h.2.1 h.2.2, .slice k.1 k.2.1 k.2.2, u16v and_, u16v or_] #[.int .i64 0, .slice hx.1 hx.2.1 hx.2.2, .slice kx.1 kx.2.1 kx.2.2, .slice tx.1 tx.2.1 tx.2.2] 58 51
  have HB6 := qh (rbytes6_any ⟨23, addr, count, to, words, bits, and_, or_⟩ h k ((w.alloc (.cells #[.int .i64 23, .int .i64 addr, .int .i64 count, .int .i64 to, .slice h.1 h.2.1 h.2.2, .slice k.1 k.2.1 k.2.2, u16v and_, u16v or_] 58)).alloc (.cells #[.int .i64 0, .slice hx.1 hx.2.1 hx.2.2, .slice kx.1 kx.2.1 kx.2.2, .slice tx.1 tx.2.1 tx.2.2] 51)) (ha.below hb0))
  rw [show askV ⟨23, addr, count, to, words, bits, and_, or_⟩ h k = .agg #[.int .i64 23, .int .i64 addr, .int .i64 count, .int .i64 to, .slice h.1 h.2.1 h.2.2, .slice k.1 k.2.1 k.2.2, u16v and_, u16v or_] from rfl] at HB6
  obtain ⟨xe, xb, xw, xt⟩ := x
  obtain rfl : xe = 0 := he
  have hi0 := hi
  rw [show askV ⟨23, addr, count, to, words, bits, and_, or_⟩ h k = .agg #[.int .i64 23, .int .i64 addr, .int .i64 count, .int .i64 to, .slice h.1 h.2.1 h.2.2, .slice k.1 k.2.1 k.2.2, u16v and_, u16v or_] from rfl, show ansV ⟨0, xb, xw, xt⟩ hx kx tx = .agg #[.int .i64 0, .slice hx.1 hx.2.1 hx.2.2, .slice kx.1 kx.2.1 kx.2.2, .slice tx.1 tx.2.1 tx.2.2] from rfl]
  go_enter Tryz.func62, Tryz.ntmps62
  go_wp2_with fail
  refine HB6.out.mono ?_
  rintro e w2 ⟨Ap, np, cp, rfl, hpl, hpo, hb2⟩
  have hbw2 := hb0.trans (hb2.mono hb0.size)
  have hra2 := row_later hra hb2
  have hrx2 := row_later hrx hb2
  have hlt1 : w.heap.size + 1 < w2.heap.size := row_lt hrx2
  have hlt0 : w.heap.size < w2.heap.size := by omega
  obtain ⟨r0, r1, r2, r3, r4, r5, r6, r7⟩ := row_eight hra2
  obtain ⟨x0, x1, x2, x3⟩ := row_quad hrx2
  have hi2 := hi.below hbw2
  clear HB6 hra hrx ha hi hi0
  have hln : kx.2.1 ≤ 125 := by have h1 := hi2.kn; simp only at h1 hm; omega
  have HPK := qh (rbytes_own kx.1 kx.2.1 kx.2.2 xw hi2.kn (by omega) w2 hi2.kl)
  have HN : Hid ((Word.bytes xw).length = (2 * kx.2.1)) := qh (by rw [Word.bytes_length]; have h1 := hi2.kn; simp only at h1; rw [h1])
  clear hm hi2 hpl hpo
  go_wp2_with fail
  refine HPK.out.mono ?_
  rintro e w3 ⟨Aq, cq, rfl, hqo, hb3⟩
  have hbw3 := hbw2.trans (hb3.mono hbw2.size)
  obtain ⟨q1, q2, q3, q4⟩ := own_at hqo
  obtain ⟨r0, r1, r2, r3, r4, r5, r6, r7⟩ := row_eight (row_later hra2 hb3)
  have hlt2 : w.heap.size < w3.heap.size := row_lt (row_later hra2 hb3)
  obtain ⟨L, hL⟩ : ∃ L : Nat, (2 * kx.2.1) = L := ⟨_, rfl⟩
  rw [hL] at HN q1 hqo ⊢
  have hL255 : L ≤ 255 := by omega
  have hLI : ((L : Nat) : Int) % 256 = (L : Int) := by omega
  have hOW : (w3.alloc (.cells #[.int .u8 23, .int .u8 (L : Int)] 5)).ownsRow w3.heap.size 5 1 (.slice (some ⟨w3.heap.size, 0, none⟩) 2 2) 2 ([An.b1 23, An.b1 L].map u8v) := own_lit u8v w3 _ _ _ _ 2 _ (by simp only [List.map_cons, List.map_nil, An.b1]; rw [u8_ofNat L (by omega)]; rfl) rfl (zq _) rfl (by unfold maxLen; omega)
  have hlq := (show Lies u8v w3 Aq (Word.bytes xw) from q4).alloc (.cells #[.int .u8 23, .int .u8 (L : Int)] 5)
  clear hL q4
  go_wp2_with (at_builtin; go_must (refine wpList_append_lies kit8 one8 _ rfl (.tmp 57) (.tmp 58) rfl w3.heap.size _ 2 [An.b1 23, An.b1 L] rfl hOW Aq L cq (Word.bytes xw) rfl HN.out hlq (by omega) (by unfold maxLen; omega) (by simp) ?_; intro A9 c9 w9 hown9 hg9 hb9))
  go_ret
  obtain ⟨t1, t2, t3, t4⟩ := own_at hown9
  refine ⟨A9, 2 + L, c9, rfl, ?_, t1, t2, ?_, hbw3.trans ((((Below.refl _ w3).alloc (zq _) _).trans hb9).mono hbw3.size)⟩
  · simp only [List.length_cons, HN.out]; omega
  · rw [HN.out]; exact t4
end Go.Proofs.YtlgmjnjhdamknaaGreat
