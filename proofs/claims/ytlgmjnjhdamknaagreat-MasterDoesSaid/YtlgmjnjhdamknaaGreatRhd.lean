
/- A part of the proof of the law MasterDoes. -/
import Derived.Test.YtlgmjnjhdamknaaGreatMem
import Derived.Test.YtlgmjnjhdamknaaGreatRhe
namespace Go.Proofs.YtlgmjnjhdamknaaGreat
open Go.RowKit

theorem pdu_few (b : List UInt8) : (Rtu.pdu b).length ≤ b.length := by
  unfold Rtu.pdu
  split
  · rw [List.length_drop]
    unfold Crc.front
    rw [List.length_take]
    omega
  · simp
theorem RTickPost.drew {S : Nat → Prop} {q : Nat} {c : Cfg} {a : Ask} {w w' : World} {r : Mst × List UInt8 × MOut} {e : Ending} (h : RTickPost S q c a w r e w') (n : Nat) : RTickPost S q c a w r e (w'.drewN n) := by
  have hd : Below w'.heap.size w' (w'.drewN n) := drewN_below (Below.refl _ _) n
  obtain ⟨B, m, cc, xh, xk, xt, he, h1, h2, h3, h4, h5, ⟨st, qt, sp, tr, h', k', d', b', hr, g1, g2⟩, h7⟩ := h
  exact ⟨B, m, cc, xh, xk, xt, he, h1, h2, h3, h4.below hd (zq _), h5.below hd, ⟨st, qt, sp, tr, h', k', d', b', hr.below hd, g1, g2⟩, h7.drewN n⟩
set_option maxRecDepth 100000 in
set_option maxHeartbeats 4000000 in
theorem rtick8_wrong (S : Nat → Prop) (q : Nat) (c : Cfg) (mq f t : Nat) (b : List UInt8) (a : Ask) (qt : Int) (h k d : Hd) (w : World)
    (hc : Ms.right c = true) (hr : RMRaw w q S c 2 qt f t a h k d b) (hq : min qt c.gap = mq) (hf : f < 2 * c.wait) (h300 : b.length ≤ 300) (hb0 : b ≠ []) (hg : c.gap ≤ min (mq + 1) c.gap) (hcd : Rtu.codeB b = 0) (hun : Rtu.unit b = c.unit) (hfe : (An.read a (Rtu.pdu b)).2 ≠ 0) :
    Calls Tryz.prog 13 #[.pointer (some ⟨q, 0, none⟩)] w (RTickPost S q c a w (Ms.fail c (min (mq + 1) c.gap) t a .garbled)) := by
  have hsm := cfg_small hc
  have c4 : w.cell? ⟨q, 4, none⟩ = some (.int .i64 2) := hr.cell rfl
  have c5 : w.cell? ⟨q, 5, none⟩ = some (.int .i64 qt) := hr.cell rfl
  have c6 : w.cell? ⟨q, 6, none⟩ = some (.int .i64 f) := hr.cell rfl
  have hqlt := hr.lt
  have f5 := hr.free 5
  have f6 := hr.free 6
  have q0 := hr.q0
  have q1 := hr.q1
  obtain ⟨Q, hQ⟩ : ∃ Q, min (qt + 1) 1000000 = Q := ⟨_, rfl⟩
  have hqq : min Q (c.gap : Int) = ((min (mq + 1) c.gap : Nat) : Int) := by omega
  have hQ0 : 0 ≤ Q := by omega
  have hQ1 : Q ≤ 1000000 := by omega
  have i1 : qt + 1 < 9223372036854775808 := by omega
  have i2 : (f : Int) + 1 < 9223372036854775808 := by omega
  have HR := qh hr
  have HQQ := qh hqq
  have hbn := hr.bn
  obtain ⟨dA, dn, dc⟩ := d
  have hbn : b.length = dn := hbn
  have HBN := qh hbn
  have c16 : w.cell? ⟨q, 16, none⟩ = some (.slice dA dn dc) := hr.cell rfl
  have hde : ((dn : Int) == 0) = false := by rw [beq_eq_false_iff_ne]; exact fun e => hb0 (List.eq_nil_of_length_eq_zero (by omega))
  have HG : Hid (decide ((c.gap : Int) ≤ Q) = true) := qh (by simp; omega)
  have HC3 := qh h300
  clear hsm hc hr hq hqq hbn hb0 hf hg h300
  go_enter Tryz.func13, Tryz.ntmps13
  go_wp2_with fail
  obtain ⟨w1, hw1⟩ : ∃ w1, (((w.setCell ⟨q, 5, none⟩ (.int .i64 Q)).setCell ⟨q, 6, none⟩ (.int .i64 ((f : Int) + 1))).alloc zeroAns).alloc zeroAns = w1 := ⟨_, rfl⟩
  obtain ⟨b1, r1, z0, z1, s1⟩ := tick_start2 HR.out w1 hw1
  have HR1 := qh r1
  have HZ0 := qh z0
  have HZ1 := qh z1
  unfold zeroAns at hw1
  rw [hw1]
  have m16 : w1.cell? ⟨q, 16, none⟩ = some (.slice dA dn dc) := (rm_asks r1).2.2.2.2.2.2.2.2
  obtain ⟨l0, l1, l2, l3, l4, l5, l6, l7⟩ := rm_loads r1
  clear hw1 r1 c4 c5 c6 c16 f5 f6 z0 z1
  go_quiet (fail)
  have b2 := b1.drewN nq
  have HR2 := qh (show (w1.drewN nq).heap[q]? = some (.cells (rmCells c 2 Q ((f : Int) + 1) t a h k (dA, dn, dc)) 61 (0, 0)) from HR1.out)
  have HZ02 := qh (show (w1.drewN nq).heap[w.heap.size]? = some zeroAns from HZ0.out)
  have HZ12 := qh (show (w1.drewN nq).heap[w.heap.size + 1]? = some zeroAns from HZ1.out)
  generalize w1.drewN nq = w2 at *
  clear l0 l1 l2 l3 l4 l5 l6 l7 m16
  obtain ⟨l0, l1, l2, l3, l4, l5, l6, l7⟩ := rm_loads HR2.out
  have m16 : w2.cell? ⟨q, 16, none⟩ = some (.slice dA dn dc) := (rm_asks HR2.out).2.2.2.2.2.2.2.2
  rw [HG.out]
  have HL2 := HR.out.next b2 HR2.out hQ0 hQ1
  have HRD := qh (rread3_any dA dn dc b HBN.out HL2.bc (by have := HBN.out; have := HC3.out; omega) w2 HL2.bl)
  clear HL2
  go_wp2_with fail
  refine HRD.out.mono ?_
  rintro e w3 ⟨A3, n3, k3, rfl, hn3, hc3, hm3, hl3, hb3⟩
  have hcd' : (((Rtu.codeB b : Nat) : Int) == 0) = true := by rw [beq_iff_eq]; omega
  have hun' : (((Rtu.unit b).toNat : Int) == (c.unit.toNat : Int)) = true := by rw [hun]; simp
  have HUN := qh hun'
  have HFE : Hid (((((An.read a (Rtu.pdu b)).2 : Nat) : Int) == 0) = false) := qh (by rw [beq_eq_false_iff_ne]; omega)
  clear hcd hun hun' hfe
  have b3 := b2.then_below hb3
  have HR3 := qh (row_later HR2.out hb3)
  have HZ03 := qh (row_later HZ02.out hb3)
  clear l0 l1 l2 l3 l4 l5 l6 l7 m16 HRD
  go_wp2_with fail
  have b4 := b3.alloc (.cells #[u8v (Rtu.unit b), .slice A3 n3 k3] 84)
  have HR4 := qh (row_later_set HR3.out (.cells #[u8v (Rtu.unit b), .slice A3 n3 k3] 84))
  have HZ04 := qh (row_later_set HZ03.out (.cells #[u8v (Rtu.unit b), .slice A3 n3 k3] 84))
  have HF4 := qh (row_at w3 #[u8v (Rtu.unit b), .slice A3 n3 k3] 84 w3.heap.size rfl)
  have HL4 := qh (hl3.below ((Below.refl _ w3).alloc (zq _) (.cells #[u8v (Rtu.unit b), .slice A3 n3 k3] 84)) (zq _))
  have hz4 : w3.heap.size < (w3.alloc (.cells #[u8v (Rtu.unit b), .slice A3 n3 k3] 84)).heap.size := by simp
  have hq4 : q < w3.heap.size := row_lt HR3.out
  have hg4 : w.heap.size < w3.heap.size := row_lt HZ03.out
  generalize w3.alloc (.cells #[u8v (Rtu.unit b), .slice A3 n3 k3] 84) = w4 at *
  obtain ⟨l0, l1, l2, l3, l4, l5, l6, l7⟩ := rm_loads HR4.out
  obtain ⟨e0, e1⟩ := row_two8 HF4.out
  clear hb3 hl3
  have hun' := HUN.out
  go_quiet (fail)
  have b5 := b4.drewN nq
  have HR5 := qh (show (w4.drewN nq).heap[q]? = some (.cells (rmCells c 2 Q ((f : Int) + 1) t a h k (dA, dn, dc)) 61 (0, 0)) from HR4.out)
  have HZ05 := qh (show (w4.drewN nq).heap[w.heap.size]? = some zeroAns from HZ04.out)
  have HF5 := qh (show (w4.drewN nq).heap[w3.heap.size]? = some (.cells #[u8v (Rtu.unit b), .slice A3 n3 k3] 84) from HF4.out)
  have HL5 := qh (show Lies u8v (w4.drewN nq) A3 (Rtu.pdu b) from HL4.out)
  generalize w4.drewN nq = w5 at *
  clear l0 l1 l2 l3 l4 l5 l6 l7
  clear e0 e1
  obtain ⟨l0, l1, l2, l3, l4, l5, l6, l7⟩ := rm_loads HR5.out
  have m16 : w5.cell? ⟨q, 16, none⟩ = some (.slice dA dn dc) := (rm_asks HR5.out).2.2.2.2.2.2.2.2
  go_wp2_with fail
  have HS : Hid (∀ X, Below w5.heap.size w5 X → (X.cell? ⟨q, 8, none⟩ = some (.int .i64 a.code) ∧ X.cell? ⟨q, 9, none⟩ = some (.int .i64 a.addr) ∧ X.cell? ⟨q, 10, none⟩ = some (.int .i64 a.count) ∧ X.cell? ⟨q, 11, none⟩ = some (.int .i64 a.to) ∧ X.cell? ⟨q, 12, none⟩ = some (.slice h.1 h.2.1 h.2.2) ∧ X.cell? ⟨q, 13, none⟩ = some (.slice k.1 k.2.1 k.2.2) ∧ X.cell? ⟨q, 14, none⟩ = some (u16v a.and_) ∧ X.cell? ⟨q, 15, none⟩ = some (u16v a.or_) ∧ X.cell? ⟨w3.heap.size, 1, none⟩ = some (.slice A3 n3 k3) ∧ Below w5.heap.size w5 X)) := qh (fun X hX => by
      obtain ⟨m8, m9, m10, m11, m12, m13, m14, m15, -⟩ := rm_asks (row_later HR5.out hX)
      exact ⟨m8, m9, m10, m11, m12, m13, m14, m15, (row_two8 (row_later HF5.out hX)).2, hX⟩)
  have HIN := qh ((HR.out.next b5 HR5.out hQ0 hQ1).ins)
  have HRD7 : Hid (∀ X, Below w5.heap.size w5 X → Calls Tryz.prog 34 #[.agg #[.int .i64 a.code, .int .i64 a.addr, .int .i64 a.count, .int .i64 a.to, .slice h.1 h.2.1 h.2.2, .slice k.1 k.2.1 k.2.2, u16v a.and_, u16v a.or_], .slice A3 n3 k3] X (ARP8 X (An.read a (Rtu.pdu b)))) := qh (fun X hX => (rread7_any a h k A3 n3 k3 (Rtu.pdu b) hn3 hc3 hm3 (by
      have h1 := pdu_few b
      have h2 := HC3.out
      omega) X (HIN.out.below hX) (HL5.out.below hX (zq _))).mono (fun _ _ h => h.named))
  have HD1 : Hid (Below w5.heap.size w5 w5.drew) := qh (drewN_below (Below.refl _ w5) 1)
  have HA1 : Hid (∀ o, Below w5.heap.size w5 (w5.alloc o).drew) := qh fun o => drewN_below ((Below.refl _ w5).alloc (zq _) o) 1
  have hHS := HS.out _ (Below.refl _ _)
  have HSA : Hid (∀ (X : World) (O : Obj), (X.cell? ⟨q, 8, none⟩ = some (.int .i64 a.code) ∧ X.cell? ⟨q, 9, none⟩ = some (.int .i64 a.addr) ∧ X.cell? ⟨q, 10, none⟩ = some (.int .i64 a.count) ∧ X.cell? ⟨q, 11, none⟩ = some (.int .i64 a.to) ∧ X.cell? ⟨q, 12, none⟩ = some (.slice h.1 h.2.1 h.2.2) ∧ X.cell? ⟨q, 13, none⟩ = some (.slice k.1 k.2.1 k.2.2) ∧ X.cell? ⟨q, 14, none⟩ = some (u16v a.and_) ∧ X.cell? ⟨q, 15, none⟩ = some (u16v a.or_) ∧ X.cell? ⟨w3.heap.size, 1, none⟩ = some (.slice A3 n3 k3) ∧ Below w5.heap.size w5 X) → ((X.alloc O).cell? ⟨q, 8, none⟩ = some (.int .i64 a.code) ∧ (X.alloc O).cell? ⟨q, 9, none⟩ = some (.int .i64 a.addr) ∧ (X.alloc O).cell? ⟨q, 10, none⟩ = some (.int .i64 a.count) ∧ (X.alloc O).cell? ⟨q, 11, none⟩ = some (.int .i64 a.to) ∧ (X.alloc O).cell? ⟨q, 12, none⟩ = some (.slice h.1 h.2.1 h.2.2) ∧ (X.alloc O).cell? ⟨q, 13, none⟩ = some (.slice k.1 k.2.1 k.2.2) ∧ (X.alloc O).cell? ⟨q, 14, none⟩ = some (u16v a.and_) ∧ (X.alloc O).cell? ⟨q, 15, none⟩ = some (u16v a.or_) ∧ (X.alloc O).cell? ⟨w3.heap.size, 1, none⟩ = some (.slice A3 n3 k3) ∧ Below w5.heap.size w5 (X.alloc O))) := qh (fun X O h1 => HS.out _ (h1.2.2.2.2.2.2.2.2.2.alloc h1.2.2.2.2.2.2.2.2.2.size O))
  clear l0 l1 l2 l3 l4 l5 l6 l7 m16
  have HSS : Hid (∀ (X : World) (g : Nat) (v0 v1 v2 v3 : Value), w5.heap.size ≤ g → Below w5.heap.size w5 X → (((((X.setCell ⟨g, 0, none⟩ v0).setCell ⟨g, 1, none⟩ v1).setCell ⟨g, 2, none⟩ v2).setCell ⟨g, 3, none⟩ v3).cell? ⟨q, 8, none⟩ = some (.int .i64 a.code) ∧ ((((X.setCell ⟨g, 0, none⟩ v0).setCell ⟨g, 1, none⟩ v1).setCell ⟨g, 2, none⟩ v2).setCell ⟨g, 3, none⟩ v3).cell? ⟨q, 9, none⟩ = some (.int .i64 a.addr) ∧ ((((X.setCell ⟨g, 0, none⟩ v0).setCell ⟨g, 1, none⟩ v1).setCell ⟨g, 2, none⟩ v2).setCell ⟨g, 3, none⟩ v3).cell? ⟨q, 10, none⟩ = some (.int .i64 a.count) ∧ ((((X.setCell ⟨g, 0, none⟩ v0).setCell ⟨g, 1, none⟩ v1).setCell ⟨g, 2, none⟩ v2).setCell ⟨g, 3, none⟩ v3).cell? ⟨q, 11, none⟩ = some (.int .i64 a.to) ∧ ((((X.setCell ⟨g, 0, none⟩ v0).setCell ⟨g, 1, none⟩ v1).setCell ⟨g, 2, none⟩ v2).setCell ⟨g, 3, none⟩ v3).cell? ⟨q, 12, none⟩ = some (.slice h.1 h.2.1 h.2.2) ∧ ((((X.setCell ⟨g, 0, none⟩ v0).setCell ⟨g, 1, none⟩ v1).setCell ⟨g, 2, none⟩ v2).setCell ⟨g, 3, none⟩ v3).cell? ⟨q, 13, none⟩ = some (.slice k.1 k.2.1 k.2.2) ∧ ((((X.setCell ⟨g, 0, none⟩ v0).setCell ⟨g, 1, none⟩ v1).setCell ⟨g, 2, none⟩ v2).setCell ⟨g, 3, none⟩ v3).cell? ⟨q, 14, none⟩ = some (u16v a.and_) ∧ ((((X.setCell ⟨g, 0, none⟩ v0).setCell ⟨g, 1, none⟩ v1).setCell ⟨g, 2, none⟩ v2).setCell ⟨g, 3, none⟩ v3).cell? ⟨q, 15, none⟩ = some (u16v a.or_) ∧ ((((X.setCell ⟨g, 0, none⟩ v0).setCell ⟨g, 1, none⟩ v1).setCell ⟨g, 2, none⟩ v2).setCell ⟨g, 3, none⟩ v3).cell? ⟨w3.heap.size, 1, none⟩ = some (.slice A3 n3 k3) ∧ Below w5.heap.size w5 ((((X.setCell ⟨g, 0, none⟩ v0).setCell ⟨g, 1, none⟩ v1).setCell ⟨g, 2, none⟩ v2).setCell ⟨g, 3, none⟩ v3))) := qh (fun X g v0 v1 v2 v3 hg hX => HS.out _ ((((hX.setCell (p := ⟨g, 0, none⟩) hg v0).setCell (p := ⟨g, 1, none⟩) hg v1).setCell (p := ⟨g, 2, none⟩) hg v2).setCell (p := ⟨g, 3, none⟩) hg v3))
  have HZA := qh (show (w5.alloc zeroAns).drew.heap[w5.heap.size]? = some zeroAns from row_at w5 #[.int .i64 0, .slice none 0 0, .slice none 0 0, .slice none 0 0] 51 w5.heap.size rfl)
  unfold zeroAns at HZA
  go_region_held3 (fun X => (X.cell? ⟨q, 8, none⟩ = some (.int .i64 a.code) ∧ X.cell? ⟨q, 9, none⟩ = some (.int .i64 a.addr) ∧ X.cell? ⟨q, 10, none⟩ = some (.int .i64 a.count) ∧ X.cell? ⟨q, 11, none⟩ = some (.int .i64 a.to) ∧ X.cell? ⟨q, 12, none⟩ = some (.slice h.1 h.2.1 h.2.2) ∧ X.cell? ⟨q, 13, none⟩ = some (.slice k.1 k.2.1 k.2.2) ∧ X.cell? ⟨q, 14, none⟩ = some (u16v a.and_) ∧ X.cell? ⟨q, 15, none⟩ = some (u16v a.or_) ∧ X.cell? ⟨w3.heap.size, 1, none⟩ = some (.slice A3 n3 k3) ∧ Below w5.heap.size w5 X)) (first | with_reducible assumption | with_reducible exact HS.out _ HD1.out | with_reducible exact HS.out _ (HA1.out _) | with_reducible exact HSA.out _ _ (by with_reducible assumption) | with_reducible exact HSS.out _ _ _ _ _ _ (zq _) (by with_reducible assumption) | fail) (first | (go_at_call 34; (with_reducible refine (HRD7.out _ HD1.out).mono ?_); rintro e w6 ⟨xe, xh, xk, xt, rfl, hxe, hx6, hb6⟩; have hW := HD1.out.trans (hb6.mono HD1.out.size); have hz' := hW.size; have hc' := HS.out _ hW) | (go_at_call 34; (with_reducible refine (HRD7.out _ (HA1.out _)).mono ?_); rintro e w6 ⟨xe, xh, xk, xt, rfl, hxe, hx6, hb6⟩; have hW := (HA1.out _).trans (hb6.mono (HA1.out _).size); have hz' := hW.size; have hr6 := row_later HZA.out hb6; obtain ⟨y0, y1, y2, y3⟩ := row_quad_free hr6; obtain ⟨o0, o1, o2, o3⟩ := row_quad hr6; have hlt6 := row_lt hr6; have hc' := HS.out _ hW) | fail)
  · skip
    have hW7 : Below w5.heap.size w5 (w6.alloc (.cells #[.int .i64 xe, .slice xh.1 xh.2.1 xh.2.2, .slice xk.1 xk.2.1 xk.2.2, .slice xt.1 xt.2.1 xt.2.2] 51)) := hW.alloc hW.size _
    have hr7 := row_at w6 #[.int .i64 xe, .slice xh.1 xh.2.1 xh.2.2, .slice xk.1 xk.2.1 xk.2.2, .slice xt.1 xt.2.1 xt.2.2] 51 w6.heap.size rfl
    have hx7 := hx6.below ((Below.refl _ w6).alloc (zq _) (.cells #[.int .i64 xe, .slice xh.1 xh.2.1 xh.2.2, .slice xk.1 xk.2.1 xk.2.2, .slice xt.1 xt.2.1 xt.2.2] 51))
    have hg7 : w5.heap.size ≤ w6.heap.size := hW.size
    generalize w6.alloc (.cells #[.int .i64 xe, .slice xh.1 xh.2.1 xh.2.2, .slice xk.1 xk.2.1 xk.2.2, .slice xt.1 xt.2.1 xt.2.2] 51) = w7 at *
    generalize w6.heap.size = g3 at *
    have HG7 := qh hg7
    have b7 := b5.then_below hW7
    have HR7 := qh (row_later HR5.out hW7)
    have HZ07 := qh (row_later HZ05.out hW7)
    have HX7 := qh hx7
    have HXE := qh hxe
    have HY7 := qh hr7
    have hq7 : q < w7.heap.size := row_lt HR7.out
    clear hc' hz' hx6 hb6 hHS HSS HSA HZA HD1 HA1 HIN HRD7 HS hW hr7 hx7 hxe hg7
    have HW7 := qh hW7
    clear hW7
    obtain ⟨l0, l1, l2, l3, l4, l5, l6, l7⟩ := rm_loads HR7.out
    have m16 : w7.cell? ⟨q, 16, none⟩ = some (.slice dA dn dc) := (rm_asks HR7.out).2.2.2.2.2.2.2.2
    have hfe := HFE.out
    have HF := qh (rfailed8_any (fun y => S y ∨ y = w.heap.size) q c (min (mq + 1) c.gap) t (f + 1) b a Q h k (dA, dn, dc) w7 .garbled (.inr rfl) (HR.out.widen b7 HR7.out hQ0 hQ1 (.inl HR.out.sq) (fun g hg => hg.imp id (fun e => Nat.le_of_eq e.symm)) (fun g hg => by
        rcases hg with hg | rfl
        · exact Nat.lt_of_lt_of_le (HR.out.sl g hg) b7.size
        · exact row_lt HZ07.out)) HQQ.out)
    go_wp2_with fail
    refine HF.out.mono ?_
    rintro e wf hpost
    obtain ⟨m', oo, hR⟩ : ∃ m' oo, Ms.fail c (min (mq + 1) c.gap) t a .garbled = (m', [], oo) := ⟨_, _, Prod.ext rfl (Prod.ext (fail_nil c (min (mq + 1) c.gap) t a .garbled) rfl)⟩
    rw [hR] at hpost
    obtain ⟨B, cc, xe, xh, xk, xt, x, rfl, hcc, ho, hxe, hx, hm, hb⟩ := hpost.out
    have HX := qh hx
    have HM := qh hm
    have HO := qh ho
    have HBF := qh hb
    have HRR := qh hR
    have HCC := qh hcc
    have HXE := qh hxe
    have hzf := row_but HZ07.out hb (by rw [List.mem_singleton]; omega)
    have HZF := qh hzf
    unfold zeroAns at hzf
    obtain ⟨y0, y1, y2, y3⟩ := row_quad_free hzf
    obtain ⟨o0, o1, o2, o3⟩ := row_quad hzf
    have hltf : w.heap.size < wf.heap.size := row_lt hzf
    obtain ⟨KK, hKK⟩ : ∃ KK : Nat, Ms.kind oo = KK := ⟨_, rfl⟩
    have HKK := qh hKK
    rw [hKK]
    clear hKK hx hm ho hb hR hcc hxe hzf HF hpost l0 l1 l2 l3 l4 l5 l6 l7 m16
    go_wp2_with fail
    obtain ⟨wz, hwz⟩ : ∃ wz, ((((wf.setCell ⟨w.heap.size, 0, none⟩ (.int .i64 xe)).setCell ⟨w.heap.size, 1, none⟩ (.slice xh.1 xh.2.1 xh.2.2)).setCell ⟨w.heap.size, 2, none⟩ (.slice xk.1 xk.2.1 xk.2.2)).setCell ⟨w.heap.size, 3, none⟩ (.slice xt.1 xt.2.1 xt.2.2)) = wz := ⟨_, rfl⟩
    obtain ⟨hfin, s0, s1, s2, s3⟩ := tick_over (B := B) HCC.out oo HO.out b7 (zq _) hqlt HZ07.out HX.out HM.out HR.out.sq HBF.out wz (by rw [HXE.out]; exact hwz)
    rw [hwz]
    rw [HXE.out] at s0 hfin
    rw [HKK.out] at hfin
    have HFIN := qh hfin
    clear hwz hfin y0 y1 y2 y3 o0 o1 o2 o3
    refine bodyPost_ret_by (v := .tuple #[.slice B 0 cc, .int .i64 (KK : Int), .agg #[.int .i64 xe, .slice xh.1 xh.2.1 xh.2.2, .slice xk.1 xk.2.1 xk.2.2, .slice xt.1 xt.2.1 xt.2.2]]) (by simp [results, Tryz.f13, go_sem, s0, s1, s2, s3]) rfl ?_
    rw [HRR.out]
    exact HFIN.out
  · skip
    have hW7 : Below w5.heap.size w5 ((((w6.setCell ⟨w5.heap.size, 0, none⟩ (.int .i64 xe)).setCell ⟨w5.heap.size, 1, none⟩ (.slice xh.1 xh.2.1 xh.2.2)).setCell ⟨w5.heap.size, 2, none⟩ (.slice xk.1 xk.2.1 xk.2.2)).setCell ⟨w5.heap.size, 3, none⟩ (.slice xt.1 xt.2.1 xt.2.2)) := (((hW.setCell (p := ⟨w5.heap.size, 0, none⟩) (zq _) _).setCell (p := ⟨w5.heap.size, 1, none⟩) (zq _) _).setCell (p := ⟨w5.heap.size, 2, none⟩) (zq _) _).setCell (p := ⟨w5.heap.size, 3, none⟩) (zq _) _
    have hr7 := stored_four8 hr6 (.int .i64 xe) (.slice xh.1 xh.2.1 xh.2.2) (.slice xk.1 xk.2.1 xk.2.2) (.slice xt.1 xt.2.1 xt.2.2)
    have hx7 := hx6.four hr6 (.int .i64 xe) (.slice xh.1 xh.2.1 xh.2.2) (.slice xk.1 xk.2.1 xk.2.2) (.slice xt.1 xt.2.1 xt.2.2)
    have hg7 : w5.heap.size ≤ w5.heap.size := zq _
    obtain ⟨w7, hw7⟩ : ∃ w7, ((((w6.setCell ⟨w5.heap.size, 0, none⟩ (.int .i64 xe)).setCell ⟨w5.heap.size, 1, none⟩ (.slice xh.1 xh.2.1 xh.2.2)).setCell ⟨w5.heap.size, 2, none⟩ (.slice xk.1 xk.2.1 xk.2.2)).setCell ⟨w5.heap.size, 3, none⟩ (.slice xt.1 xt.2.1 xt.2.2)) = w7 := ⟨_, rfl⟩
    rw [hw7] at hW7 hr7 hx7 ⊢
    obtain ⟨g3, hg3⟩ : ∃ g3, w5.heap.size = g3 := ⟨_, rfl⟩
    rw [hg3] at hr7 hg7 ⊢
    clear hw7 y0 y1 y2 y3 o0 o1 o2 o3 hr6 hlt6
    have HG7 := qh hg7
    have b7 := b5.then_below hW7
    have HR7 := qh (row_later HR5.out hW7)
    have HZ07 := qh (row_later HZ05.out hW7)
    have HX7 := qh hx7
    have HXE := qh hxe
    have HY7 := qh hr7
    have hq7 : q < w7.heap.size := row_lt HR7.out
    clear hc' hz' hx6 hb6 hHS HSS HSA HZA HD1 HA1 HIN HRD7 HS hW hr7 hx7 hxe hg7
    have HW7 := qh hW7
    clear hW7
    obtain ⟨l0, l1, l2, l3, l4, l5, l6, l7⟩ := rm_loads HR7.out
    have m16 : w7.cell? ⟨q, 16, none⟩ = some (.slice dA dn dc) := (rm_asks HR7.out).2.2.2.2.2.2.2.2
    have hfe := HFE.out
    have HF := qh (rfailed8_any (fun y => S y ∨ y = w.heap.size) q c (min (mq + 1) c.gap) t (f + 1) b a Q h k (dA, dn, dc) w7 .garbled (.inr rfl) (HR.out.widen b7 HR7.out hQ0 hQ1 (.inl HR.out.sq) (fun g hg => hg.imp id (fun e => Nat.le_of_eq e.symm)) (fun g hg => by
        rcases hg with hg | rfl
        · exact Nat.lt_of_lt_of_le (HR.out.sl g hg) b7.size
        · exact row_lt HZ07.out)) HQQ.out)
    go_wp2_with fail
    refine HF.out.mono ?_
    rintro e wf hpost
    obtain ⟨m', oo, hR⟩ : ∃ m' oo, Ms.fail c (min (mq + 1) c.gap) t a .garbled = (m', [], oo) := ⟨_, _, Prod.ext rfl (Prod.ext (fail_nil c (min (mq + 1) c.gap) t a .garbled) rfl)⟩
    rw [hR] at hpost
    obtain ⟨B, cc, xe, xh, xk, xt, x, rfl, hcc, ho, hxe, hx, hm, hb⟩ := hpost.out
    have HX := qh hx
    have HM := qh hm
    have HO := qh ho
    have HBF := qh hb
    have HRR := qh hR
    have HCC := qh hcc
    have HXE := qh hxe
    have hzf := row_but HZ07.out hb (by rw [List.mem_singleton]; omega)
    have HZF := qh hzf
    unfold zeroAns at hzf
    obtain ⟨y0, y1, y2, y3⟩ := row_quad_free hzf
    obtain ⟨o0, o1, o2, o3⟩ := row_quad hzf
    have hltf : w.heap.size < wf.heap.size := row_lt hzf
    obtain ⟨KK, hKK⟩ : ∃ KK : Nat, Ms.kind oo = KK := ⟨_, rfl⟩
    have HKK := qh hKK
    rw [hKK]
    clear hKK hx hm ho hb hR hcc hxe hzf HF hpost l0 l1 l2 l3 l4 l5 l6 l7 m16
    go_wp2_with fail
    obtain ⟨wz, hwz⟩ : ∃ wz, ((((wf.setCell ⟨w.heap.size, 0, none⟩ (.int .i64 xe)).setCell ⟨w.heap.size, 1, none⟩ (.slice xh.1 xh.2.1 xh.2.2)).setCell ⟨w.heap.size, 2, none⟩ (.slice xk.1 xk.2.1 xk.2.2)).setCell ⟨w.heap.size, 3, none⟩ (.slice xt.1 xt.2.1 xt.2.2)) = wz := ⟨_, rfl⟩
    obtain ⟨hfin, s0, s1, s2, s3⟩ := tick_over (B := B) HCC.out oo HO.out b7 (zq _) hqlt HZ07.out HX.out HM.out HR.out.sq HBF.out wz (by rw [HXE.out]; exact hwz)
    rw [hwz]
    rw [HXE.out] at s0 hfin
    rw [HKK.out] at hfin
    have HFIN := qh hfin
    clear hwz hfin y0 y1 y2 y3 o0 o1 o2 o3
    refine bodyPost_ret_by (v := .tuple #[.slice B 0 cc, .int .i64 (KK : Int), .agg #[.int .i64 xe, .slice xh.1 xh.2.1 xh.2.2, .slice xk.1 xk.2.1 xk.2.2, .slice xt.1 xt.2.1 xt.2.2]]) (by simp [results, Tryz.f13, go_sem, s0, s1, s2, s3]) rfl ?_
    rw [HRR.out]
    exact HFIN.out

set_option maxRecDepth 100000 in
set_option maxHeartbeats 4000000 in
theorem rtick8_right (S : Nat → Prop) (q : Nat) (c : Cfg) (mq f t : Nat) (b : List UInt8) (a : Ask) (qt : Int) (h k d : Hd) (w : World)
    (hc : Ms.right c = true) (hr : RMRaw w q S c 2 qt f t a h k d b) (hq : min qt c.gap = mq) (hf : f < 2 * c.wait) (h300 : b.length ≤ 300) (hb0 : b ≠ []) (hg : c.gap ≤ min (mq + 1) c.gap) (hcd : Rtu.codeB b = 0) (hun : Rtu.unit b = c.unit) (hfe : (An.read a (Rtu.pdu b)).2 = 0) :
    Calls Tryz.prog 13 #[.pointer (some ⟨q, 0, none⟩)] w (RTickPost S q c a w (⟨min (mq + 1) c.gap, .idle⟩, [], .done (An.read a (Rtu.pdu b)).1)) := by
  have hsm := cfg_small hc
  have c4 : w.cell? ⟨q, 4, none⟩ = some (.int .i64 2) := hr.cell rfl
  have c5 : w.cell? ⟨q, 5, none⟩ = some (.int .i64 qt) := hr.cell rfl
  have c6 : w.cell? ⟨q, 6, none⟩ = some (.int .i64 f) := hr.cell rfl
  have hqlt := hr.lt
  have f5 := hr.free 5
  have f6 := hr.free 6
  have q0 := hr.q0
  have q1 := hr.q1
  obtain ⟨Q, hQ⟩ : ∃ Q, min (qt + 1) 1000000 = Q := ⟨_, rfl⟩
  have hqq : min Q (c.gap : Int) = ((min (mq + 1) c.gap : Nat) : Int) := by omega
  have hQ0 : 0 ≤ Q := by omega
  have hQ1 : Q ≤ 1000000 := by omega
  have i1 : qt + 1 < 9223372036854775808 := by omega
  have i2 : (f : Int) + 1 < 9223372036854775808 := by omega
  have HR := qh hr
  have HQQ := qh hqq
  have hbn := hr.bn
  obtain ⟨dA, dn, dc⟩ := d
  have hbn : b.length = dn := hbn
  have HBN := qh hbn
  have c16 : w.cell? ⟨q, 16, none⟩ = some (.slice dA dn dc) := hr.cell rfl
  have hde : ((dn : Int) == 0) = false := by rw [beq_eq_false_iff_ne]; exact fun e => hb0 (List.eq_nil_of_length_eq_zero (by omega))
  have HG : Hid (decide ((c.gap : Int) ≤ Q) = true) := qh (by simp; omega)
  have HC3 := qh h300
  clear hsm hc hr hq hqq hbn hb0 hf hg h300
  go_enter Tryz.func13, Tryz.ntmps13
  go_wp2_with fail
  obtain ⟨w1, hw1⟩ : ∃ w1, (((w.setCell ⟨q, 5, none⟩ (.int .i64 Q)).setCell ⟨q, 6, none⟩ (.int .i64 ((f : Int) + 1))).alloc zeroAns).alloc zeroAns = w1 := ⟨_, rfl⟩
  obtain ⟨b1, r1, z0, z1, s1⟩ := tick_start2 HR.out w1 hw1
  have HR1 := qh r1
  have HZ0 := qh z0
  have HZ1 := qh z1
  unfold zeroAns at hw1
  rw [hw1]
  have m16 : w1.cell? ⟨q, 16, none⟩ = some (.slice dA dn dc) := (rm_asks r1).2.2.2.2.2.2.2.2
  obtain ⟨l0, l1, l2, l3, l4, l5, l6, l7⟩ := rm_loads r1
  clear hw1 r1 c4 c5 c6 c16 f5 f6 z0 z1
  go_quiet (fail)
  have b2 := b1.drewN nq
  have HR2 := qh (show (w1.drewN nq).heap[q]? = some (.cells (rmCells c 2 Q ((f : Int) + 1) t a h k (dA, dn, dc)) 61 (0, 0)) from HR1.out)
  have HZ02 := qh (show (w1.drewN nq).heap[w.heap.size]? = some zeroAns from HZ0.out)
  have HZ12 := qh (show (w1.drewN nq).heap[w.heap.size + 1]? = some zeroAns from HZ1.out)
  generalize w1.drewN nq = w2 at *
  clear l0 l1 l2 l3 l4 l5 l6 l7 m16
  obtain ⟨l0, l1, l2, l3, l4, l5, l6, l7⟩ := rm_loads HR2.out
  have m16 : w2.cell? ⟨q, 16, none⟩ = some (.slice dA dn dc) := (rm_asks HR2.out).2.2.2.2.2.2.2.2
  rw [HG.out]
  have HL2 := HR.out.next b2 HR2.out hQ0 hQ1
  have HRD := qh (rread3_any dA dn dc b HBN.out HL2.bc (by have := HBN.out; have := HC3.out; omega) w2 HL2.bl)
  clear HL2
  go_wp2_with fail
  refine HRD.out.mono ?_
  rintro e w3 ⟨A3, n3, k3, rfl, hn3, hc3, hm3, hl3, hb3⟩
  have hcd' : (((Rtu.codeB b : Nat) : Int) == 0) = true := by rw [beq_iff_eq]; omega
  have hun' : (((Rtu.unit b).toNat : Int) == (c.unit.toNat : Int)) = true := by rw [hun]; simp
  have HUN := qh hun'
  have HFE : Hid (((((An.read a (Rtu.pdu b)).2 : Nat) : Int) == 0) = true) := qh (by rw [beq_iff_eq]; omega)
  clear hcd hun hun' hfe
  have b3 := b2.then_below hb3
  have HR3 := qh (row_later HR2.out hb3)
  have HZ03 := qh (row_later HZ02.out hb3)
  clear l0 l1 l2 l3 l4 l5 l6 l7 m16 HRD
  go_wp2_with fail
  have b4 := b3.alloc (.cells #[u8v (Rtu.unit b), .slice A3 n3 k3] 84)
  have HR4 := qh (row_later_set HR3.out (.cells #[u8v (Rtu.unit b), .slice A3 n3 k3] 84))
  have HZ04 := qh (row_later_set HZ03.out (.cells #[u8v (Rtu.unit b), .slice A3 n3 k3] 84))
  have HF4 := qh (row_at w3 #[u8v (Rtu.unit b), .slice A3 n3 k3] 84 w3.heap.size rfl)
  have HL4 := qh (hl3.below ((Below.refl _ w3).alloc (zq _) (.cells #[u8v (Rtu.unit b), .slice A3 n3 k3] 84)) (zq _))
  have hz4 : w3.heap.size < (w3.alloc (.cells #[u8v (Rtu.unit b), .slice A3 n3 k3] 84)).heap.size := by simp
  have hq4 : q < w3.heap.size := row_lt HR3.out
  have hg4 : w.heap.size < w3.heap.size := row_lt HZ03.out
  generalize w3.alloc (.cells #[u8v (Rtu.unit b), .slice A3 n3 k3] 84) = w4 at *
  obtain ⟨l0, l1, l2, l3, l4, l5, l6, l7⟩ := rm_loads HR4.out
  obtain ⟨e0, e1⟩ := row_two8 HF4.out
  clear hb3 hl3
  have hun' := HUN.out
  go_quiet (fail)
  have b5 := b4.drewN nq
  have HR5 := qh (show (w4.drewN nq).heap[q]? = some (.cells (rmCells c 2 Q ((f : Int) + 1) t a h k (dA, dn, dc)) 61 (0, 0)) from HR4.out)
  have HZ05 := qh (show (w4.drewN nq).heap[w.heap.size]? = some zeroAns from HZ04.out)
  have HF5 := qh (show (w4.drewN nq).heap[w3.heap.size]? = some (.cells #[u8v (Rtu.unit b), .slice A3 n3 k3] 84) from HF4.out)
  have HL5 := qh (show Lies u8v (w4.drewN nq) A3 (Rtu.pdu b) from HL4.out)
  generalize w4.drewN nq = w5 at *
  clear l0 l1 l2 l3 l4 l5 l6 l7
  clear e0 e1
  obtain ⟨l0, l1, l2, l3, l4, l5, l6, l7⟩ := rm_loads HR5.out
  have m16 : w5.cell? ⟨q, 16, none⟩ = some (.slice dA dn dc) := (rm_asks HR5.out).2.2.2.2.2.2.2.2
  go_wp2_with fail
  have HS : Hid (∀ X, Below w5.heap.size w5 X → (X.cell? ⟨q, 8, none⟩ = some (.int .i64 a.code) ∧ X.cell? ⟨q, 9, none⟩ = some (.int .i64 a.addr) ∧ X.cell? ⟨q, 10, none⟩ = some (.int .i64 a.count) ∧ X.cell? ⟨q, 11, none⟩ = some (.int .i64 a.to) ∧ X.cell? ⟨q, 12, none⟩ = some (.slice h.1 h.2.1 h.2.2) ∧ X.cell? ⟨q, 13, none⟩ = some (.slice k.1 k.2.1 k.2.2) ∧ X.cell? ⟨q, 14, none⟩ = some (u16v a.and_) ∧ X.cell? ⟨q, 15, none⟩ = some (u16v a.or_) ∧ X.cell? ⟨w3.heap.size, 1, none⟩ = some (.slice A3 n3 k3) ∧ Below w5.heap.size w5 X)) := qh (fun X hX => by
      obtain ⟨m8, m9, m10, m11, m12, m13, m14, m15, -⟩ := rm_asks (row_later HR5.out hX)
      exact ⟨m8, m9, m10, m11, m12, m13, m14, m15, (row_two8 (row_later HF5.out hX)).2, hX⟩)
  have HIN := qh ((HR.out.next b5 HR5.out hQ0 hQ1).ins)
  have HRD7 : Hid (∀ X, Below w5.heap.size w5 X → Calls Tryz.prog 34 #[.agg #[.int .i64 a.code, .int .i64 a.addr, .int .i64 a.count, .int .i64 a.to, .slice h.1 h.2.1 h.2.2, .slice k.1 k.2.1 k.2.2, u16v a.and_, u16v a.or_], .slice A3 n3 k3] X (ARP8 X (An.read a (Rtu.pdu b)))) := qh (fun X hX => (rread7_any a h k A3 n3 k3 (Rtu.pdu b) hn3 hc3 hm3 (by
      have h1 := pdu_few b
      have h2 := HC3.out
      omega) X (HIN.out.below hX) (HL5.out.below hX (zq _))).mono (fun _ _ h => h.named))
  have HD1 : Hid (Below w5.heap.size w5 w5.drew) := qh (drewN_below (Below.refl _ w5) 1)
  have HA1 : Hid (∀ o, Below w5.heap.size w5 (w5.alloc o).drew) := qh fun o => drewN_below ((Below.refl _ w5).alloc (zq _) o) 1
  have hHS := HS.out _ (Below.refl _ _)
  have HSA : Hid (∀ (X : World) (O : Obj), (X.cell? ⟨q, 8, none⟩ = some (.int .i64 a.code) ∧ X.cell? ⟨q, 9, none⟩ = some (.int .i64 a.addr) ∧ X.cell? ⟨q, 10, none⟩ = some (.int .i64 a.count) ∧ X.cell? ⟨q, 11, none⟩ = some (.int .i64 a.to) ∧ X.cell? ⟨q, 12, none⟩ = some (.slice h.1 h.2.1 h.2.2) ∧ X.cell? ⟨q, 13, none⟩ = some (.slice k.1 k.2.1 k.2.2) ∧ X.cell? ⟨q, 14, none⟩ = some (u16v a.and_) ∧ X.cell? ⟨q, 15, none⟩ = some (u16v a.or_) ∧ X.cell? ⟨w3.heap.size, 1, none⟩ = some (.slice A3 n3 k3) ∧ Below w5.heap.size w5 X) → ((X.alloc O).cell? ⟨q, 8, none⟩ = some (.int .i64 a.code) ∧ (X.alloc O).cell? ⟨q, 9, none⟩ = some (.int .i64 a.addr) ∧ (X.alloc O).cell? ⟨q, 10, none⟩ = some (.int .i64 a.count) ∧ (X.alloc O).cell? ⟨q, 11, none⟩ = some (.int .i64 a.to) ∧ (X.alloc O).cell? ⟨q, 12, none⟩ = some (.slice h.1 h.2.1 h.2.2) ∧ (X.alloc O).cell? ⟨q, 13, none⟩ = some (.slice k.1 k.2.1 k.2.2) ∧ (X.alloc O).cell? ⟨q, 14, none⟩ = some (u16v a.and_) ∧ (X.alloc O).cell? ⟨q, 15, none⟩ = some (u16v a.or_) ∧ (X.alloc O).cell? ⟨w3.heap.size, 1, none⟩ = some (.slice A3 n3 k3) ∧ Below w5.heap.size w5 (X.alloc O))) := qh (fun X O h1 => HS.out _ (h1.2.2.2.2.2.2.2.2.2.alloc h1.2.2.2.2.2.2.2.2.2.size O))
  clear l0 l1 l2 l3 l4 l5 l6 l7 m16
  have HSS : Hid (∀ (X : World) (g : Nat) (v0 v1 v2 v3 : Value), w5.heap.size ≤ g → Below w5.heap.size w5 X → (((((X.setCell ⟨g, 0, none⟩ v0).setCell ⟨g, 1, none⟩ v1).setCell ⟨g, 2, none⟩ v2).setCell ⟨g, 3, none⟩ v3).cell? ⟨q, 8, none⟩ = some (.int .i64 a.code) ∧ ((((X.setCell ⟨g, 0, none⟩ v0).setCell ⟨g, 1, none⟩ v1).setCell ⟨g, 2, none⟩ v2).setCell ⟨g, 3, none⟩ v3).cell? ⟨q, 9, none⟩ = some (.int .i64 a.addr) ∧ ((((X.setCell ⟨g, 0, none⟩ v0).setCell ⟨g, 1, none⟩ v1).setCell ⟨g, 2, none⟩ v2).setCell ⟨g, 3, none⟩ v3).cell? ⟨q, 10, none⟩ = some (.int .i64 a.count) ∧ ((((X.setCell ⟨g, 0, none⟩ v0).setCell ⟨g, 1, none⟩ v1).setCell ⟨g, 2, none⟩ v2).setCell ⟨g, 3, none⟩ v3).cell? ⟨q, 11, none⟩ = some (.int .i64 a.to) ∧ ((((X.setCell ⟨g, 0, none⟩ v0).setCell ⟨g, 1, none⟩ v1).setCell ⟨g, 2, none⟩ v2).setCell ⟨g, 3, none⟩ v3).cell? ⟨q, 12, none⟩ = some (.slice h.1 h.2.1 h.2.2) ∧ ((((X.setCell ⟨g, 0, none⟩ v0).setCell ⟨g, 1, none⟩ v1).setCell ⟨g, 2, none⟩ v2).setCell ⟨g, 3, none⟩ v3).cell? ⟨q, 13, none⟩ = some (.slice k.1 k.2.1 k.2.2) ∧ ((((X.setCell ⟨g, 0, none⟩ v0).setCell ⟨g, 1, none⟩ v1).setCell ⟨g, 2, none⟩ v2).setCell ⟨g, 3, none⟩ v3).cell? ⟨q, 14, none⟩ = some (u16v a.and_) ∧ ((((X.setCell ⟨g, 0, none⟩ v0).setCell ⟨g, 1, none⟩ v1).setCell ⟨g, 2, none⟩ v2).setCell ⟨g, 3, none⟩ v3).cell? ⟨q, 15, none⟩ = some (u16v a.or_) ∧ ((((X.setCell ⟨g, 0, none⟩ v0).setCell ⟨g, 1, none⟩ v1).setCell ⟨g, 2, none⟩ v2).setCell ⟨g, 3, none⟩ v3).cell? ⟨w3.heap.size, 1, none⟩ = some (.slice A3 n3 k3) ∧ Below w5.heap.size w5 ((((X.setCell ⟨g, 0, none⟩ v0).setCell ⟨g, 1, none⟩ v1).setCell ⟨g, 2, none⟩ v2).setCell ⟨g, 3, none⟩ v3))) := qh (fun X g v0 v1 v2 v3 hg hX => HS.out _ ((((hX.setCell (p := ⟨g, 0, none⟩) hg v0).setCell (p := ⟨g, 1, none⟩) hg v1).setCell (p := ⟨g, 2, none⟩) hg v2).setCell (p := ⟨g, 3, none⟩) hg v3))
  have HZA := qh (show (w5.alloc zeroAns).drew.heap[w5.heap.size]? = some zeroAns from row_at w5 #[.int .i64 0, .slice none 0 0, .slice none 0 0, .slice none 0 0] 51 w5.heap.size rfl)
  unfold zeroAns at HZA
  go_region_held3 (fun X => (X.cell? ⟨q, 8, none⟩ = some (.int .i64 a.code) ∧ X.cell? ⟨q, 9, none⟩ = some (.int .i64 a.addr) ∧ X.cell? ⟨q, 10, none⟩ = some (.int .i64 a.count) ∧ X.cell? ⟨q, 11, none⟩ = some (.int .i64 a.to) ∧ X.cell? ⟨q, 12, none⟩ = some (.slice h.1 h.2.1 h.2.2) ∧ X.cell? ⟨q, 13, none⟩ = some (.slice k.1 k.2.1 k.2.2) ∧ X.cell? ⟨q, 14, none⟩ = some (u16v a.and_) ∧ X.cell? ⟨q, 15, none⟩ = some (u16v a.or_) ∧ X.cell? ⟨w3.heap.size, 1, none⟩ = some (.slice A3 n3 k3) ∧ Below w5.heap.size w5 X)) (first | with_reducible assumption | with_reducible exact HS.out _ HD1.out | with_reducible exact HS.out _ (HA1.out _) | with_reducible exact HSA.out _ _ (by with_reducible assumption) | with_reducible exact HSS.out _ _ _ _ _ _ (zq _) (by with_reducible assumption) | fail) (first | (go_at_call 34; (with_reducible refine (HRD7.out _ HD1.out).mono ?_); rintro e w6 ⟨xe, xh, xk, xt, rfl, hxe, hx6, hb6⟩; have hW := HD1.out.trans (hb6.mono HD1.out.size); have hz' := hW.size; have hc' := HS.out _ hW) | (go_at_call 34; (with_reducible refine (HRD7.out _ (HA1.out _)).mono ?_); rintro e w6 ⟨xe, xh, xk, xt, rfl, hxe, hx6, hb6⟩; have hW := (HA1.out _).trans (hb6.mono (HA1.out _).size); have hz' := hW.size; have hr6 := row_later HZA.out hb6; obtain ⟨y0, y1, y2, y3⟩ := row_quad_free hr6; obtain ⟨o0, o1, o2, o3⟩ := row_quad hr6; have hlt6 := row_lt hr6; have hc' := HS.out _ hW) | fail)
  · skip
    have hW7 : Below w5.heap.size w5 (w6.alloc (.cells #[.int .i64 xe, .slice xh.1 xh.2.1 xh.2.2, .slice xk.1 xk.2.1 xk.2.2, .slice xt.1 xt.2.1 xt.2.2] 51)) := hW.alloc hW.size _
    have hr7 := row_at w6 #[.int .i64 xe, .slice xh.1 xh.2.1 xh.2.2, .slice xk.1 xk.2.1 xk.2.2, .slice xt.1 xt.2.1 xt.2.2] 51 w6.heap.size rfl
    have hx7 := hx6.below ((Below.refl _ w6).alloc (zq _) (.cells #[.int .i64 xe, .slice xh.1 xh.2.1 xh.2.2, .slice xk.1 xk.2.1 xk.2.2, .slice xt.1 xt.2.1 xt.2.2] 51))
    have hg7 : w5.heap.size ≤ w6.heap.size := hW.size
    generalize w6.alloc (.cells #[.int .i64 xe, .slice xh.1 xh.2.1 xh.2.2, .slice xk.1 xk.2.1 xk.2.2, .slice xt.1 xt.2.1 xt.2.2] 51) = w7 at *
    generalize w6.heap.size = g3 at *
    have HG7 := qh hg7
    have b7 := b5.then_below hW7
    have HR7 := qh (row_later HR5.out hW7)
    have HZ07 := qh (row_later HZ05.out hW7)
    have HX7 := qh hx7
    have HXE := qh hxe
    have HY7 := qh hr7
    have hq7 : q < w7.heap.size := row_lt HR7.out
    clear hc' hz' hx6 hb6 hHS HSS HSA HZA HD1 HA1 HIN HRD7 HS hW hr7 hx7 hxe hg7
    have HW7 := qh hW7
    clear hW7
    obtain ⟨l0, l1, l2, l3, l4, l5, l6, l7⟩ := rm_loads HR7.out
    have m16 : w7.cell? ⟨q, 16, none⟩ = some (.slice dA dn dc) := (rm_asks HR7.out).2.2.2.2.2.2.2.2
    have hfe := HFE.out
    have f4 := row_free HR7.out 4
    go_wp2_with fail
    have b78 : But [q] w7 (w7.setCell ⟨q, 4, none⟩ (.int .i64 0)) := But.one w7 q 4 _
    have b8 := b7.trans b78
    have HR8 := qh (show (w7.setCell ⟨q, 4, none⟩ (.int .i64 0)).heap[q]? = some (.cells (rmCells c 0 Q ((f : Int) + 1) t a h k (dA, dn, dc)) 61 (0, 0)) by rw [row_set HR7.out]; rfl)
    have hz8 := row_but HZ07.out b78 (by rw [List.mem_singleton]; omega)
    have hy8 := row_but HY7.out b78 (by have h1 := HG7.out; have h2 := row_lt HR5.out; rw [List.mem_singleton]; omega)
    have HX8 := qh (HX7.out.kept ((HR.out.next b7 HR7.out hQ0 hQ1).kept (HR.out.next b8 HR8.out hQ0 hQ1) b78))
    have hq8 : q < (w7.setCell ⟨q, 4, none⟩ (.int .i64 0)).heap.size := row_lt HR8.out
    have hgg : g3 ≠ w.heap.size := by have h1 := HG7.out; have h2 := row_lt HZ05.out; omega
    generalize w7.setCell ⟨q, 4, none⟩ (.int .i64 0) = w8 at *
    clear l0 l1 l2 l3 l4 l5 l6 l7 m16 f4
    have HZ8 := qh hz8
    unfold zeroAns at hz8
    obtain ⟨o0, o1, o2, o3⟩ := row_quad hz8
    obtain ⟨y0, y1, y2, y3⟩ := row_quad_free hz8
    obtain ⟨p0, p1, p2, p3⟩ := row_quad hy8
    obtain ⟨x0, x1, x2, x3⟩ := row_quad_free hy8
    have hlt8 : w.heap.size < w8.heap.size := row_lt hz8
    have hlt9 : g3 < w8.heap.size := row_lt hy8
    clear hz8 hy8
    go_region
    go_wp2_with fail
    obtain ⟨wz, hwz⟩ : ∃ wz, ((((w8.setCell ⟨w.heap.size, 0, none⟩ (.int .i64 xe)).setCell ⟨w.heap.size, 1, none⟩ (.slice xh.1 xh.2.1 xh.2.2)).setCell ⟨w.heap.size, 2, none⟩ (.slice xk.1 xk.2.1 xk.2.2)).setCell ⟨w.heap.size, 3, none⟩ (.slice xt.1 xt.2.1 xt.2.2)) = wz := ⟨_, rfl⟩
    obtain ⟨hfin, s0, s1, s2, s3⟩ := tick_over (x := (An.read a (Rtu.pdu b)).1) (B := none) (cc := 0) (Nat.zero_le _) (S := S) (m := ⟨min (mq + 1) c.gap, .idle⟩) (.done (An.read a (Rtu.pdu b)).1) rfl b8 (zq _) hqlt HZ8.out HX8.out ⟨0, Q, ((f + 1 : Nat) : Int), t, h, k, (dA, dn, dc), b, HR.out.widen b8 HR8.out hQ0 hQ1 (.inl HR.out.sq) (fun g hg => hg.imp id (fun e => Nat.le_of_eq e.symm)) (fun g hg => by
        rcases hg with hg | rfl
        · exact Nat.lt_of_lt_of_le (HR.out.sl g hg) b8.size
        · exact hlt8), HQQ.out, rfl⟩ HR.out.sq (But.refl _ _) wz (by rw [HXE.out]; exact hwz)
    rw [hwz]
    rw [HXE.out] at s0 hfin
    have HFIN := qh (hfin.drew 1)
    have t0 : wz.drew.cell? ⟨w.heap.size, 0, none⟩ = _ := s0
    have t1 : wz.drew.cell? ⟨w.heap.size, 1, none⟩ = _ := s1
    have t2 : wz.drew.cell? ⟨w.heap.size, 2, none⟩ = _ := s2
    have t3 : wz.drew.cell? ⟨w.heap.size, 3, none⟩ = _ := s3
    clear hwz hfin s0 s1 s2 s3 y0 y1 y2 y3 o0 o1 o2 o3 p0 p1 p2 p3 x0 x1 x2 x3
    refine bodyPost_ret_by (v := .tuple #[.slice none 0 0, .int .i64 1, .agg #[.int .i64 xe, .slice xh.1 xh.2.1 xh.2.2, .slice xk.1 xk.2.1 xk.2.2, .slice xt.1 xt.2.1 xt.2.2]]) (by simp [results, Tryz.f13, go_sem, t0, t1, t2, t3]) rfl ?_
    exact HFIN.out
  · skip
    have hW7 : Below w5.heap.size w5 ((((w6.setCell ⟨w5.heap.size, 0, none⟩ (.int .i64 xe)).setCell ⟨w5.heap.size, 1, none⟩ (.slice xh.1 xh.2.1 xh.2.2)).setCell ⟨w5.heap.size, 2, none⟩ (.slice xk.1 xk.2.1 xk.2.2)).setCell ⟨w5.heap.size, 3, none⟩ (.slice xt.1 xt.2.1 xt.2.2)) := (((hW.setCell (p := ⟨w5.heap.size, 0, none⟩) (zq _) _).setCell (p := ⟨w5.heap.size, 1, none⟩) (zq _) _).setCell (p := ⟨w5.heap.size, 2, none⟩) (zq _) _).setCell (p := ⟨w5.heap.size, 3, none⟩) (zq _) _
    have hr7 := stored_four8 hr6 (.int .i64 xe) (.slice xh.1 xh.2.1 xh.2.2) (.slice xk.1 xk.2.1 xk.2.2) (.slice xt.1 xt.2.1 xt.2.2)
    have hx7 := hx6.four hr6 (.int .i64 xe) (.slice xh.1 xh.2.1 xh.2.2) (.slice xk.1 xk.2.1 xk.2.2) (.slice xt.1 xt.2.1 xt.2.2)
    have hg7 : w5.heap.size ≤ w5.heap.size := zq _
    obtain ⟨w7, hw7⟩ : ∃ w7, ((((w6.setCell ⟨w5.heap.size, 0, none⟩ (.int .i64 xe)).setCell ⟨w5.heap.size, 1, none⟩ (.slice xh.1 xh.2.1 xh.2.2)).setCell ⟨w5.heap.size, 2, none⟩ (.slice xk.1 xk.2.1 xk.2.2)).setCell ⟨w5.heap.size, 3, none⟩ (.slice xt.1 xt.2.1 xt.2.2)) = w7 := ⟨_, rfl⟩
    rw [hw7] at hW7 hr7 hx7 ⊢
    obtain ⟨g3, hg3⟩ : ∃ g3, w5.heap.size = g3 := ⟨_, rfl⟩
    rw [hg3] at hr7 hg7 ⊢
    clear hw7 y0 y1 y2 y3 o0 o1 o2 o3 hr6 hlt6
    have HG7 := qh hg7
    have b7 := b5.then_below hW7
    have HR7 := qh (row_later HR5.out hW7)
    have HZ07 := qh (row_later HZ05.out hW7)
    have HX7 := qh hx7
    have HXE := qh hxe
    have HY7 := qh hr7
    have hq7 : q < w7.heap.size := row_lt HR7.out
    clear hc' hz' hx6 hb6 hHS HSS HSA HZA HD1 HA1 HIN HRD7 HS hW hr7 hx7 hxe hg7
    have HW7 := qh hW7
    clear hW7
    obtain ⟨l0, l1, l2, l3, l4, l5, l6, l7⟩ := rm_loads HR7.out
    have m16 : w7.cell? ⟨q, 16, none⟩ = some (.slice dA dn dc) := (rm_asks HR7.out).2.2.2.2.2.2.2.2
    have hfe := HFE.out
    have f4 := row_free HR7.out 4
    go_wp2_with fail
    have b78 : But [q] w7 (w7.setCell ⟨q, 4, none⟩ (.int .i64 0)) := But.one w7 q 4 _
    have b8 := b7.trans b78
    have HR8 := qh (show (w7.setCell ⟨q, 4, none⟩ (.int .i64 0)).heap[q]? = some (.cells (rmCells c 0 Q ((f : Int) + 1) t a h k (dA, dn, dc)) 61 (0, 0)) by rw [row_set HR7.out]; rfl)
    have hz8 := row_but HZ07.out b78 (by rw [List.mem_singleton]; omega)
    have hy8 := row_but HY7.out b78 (by have h1 := HG7.out; have h2 := row_lt HR5.out; rw [List.mem_singleton]; omega)
    have HX8 := qh (HX7.out.kept ((HR.out.next b7 HR7.out hQ0 hQ1).kept (HR.out.next b8 HR8.out hQ0 hQ1) b78))
    have hq8 : q < (w7.setCell ⟨q, 4, none⟩ (.int .i64 0)).heap.size := row_lt HR8.out
    have hgg : g3 ≠ w.heap.size := by have h1 := HG7.out; have h2 := row_lt HZ05.out; omega
    generalize w7.setCell ⟨q, 4, none⟩ (.int .i64 0) = w8 at *
    clear l0 l1 l2 l3 l4 l5 l6 l7 m16 f4
    have HZ8 := qh hz8
    unfold zeroAns at hz8
    obtain ⟨o0, o1, o2, o3⟩ := row_quad hz8
    obtain ⟨y0, y1, y2, y3⟩ := row_quad_free hz8
    obtain ⟨p0, p1, p2, p3⟩ := row_quad hy8
    obtain ⟨x0, x1, x2, x3⟩ := row_quad_free hy8
    have hlt8 : w.heap.size < w8.heap.size := row_lt hz8
    have hlt9 : g3 < w8.heap.size := row_lt hy8
    clear hz8 hy8
    go_region
    go_wp2_with fail
    obtain ⟨wz, hwz⟩ : ∃ wz, ((((w8.setCell ⟨w.heap.size, 0, none⟩ (.int .i64 xe)).setCell ⟨w.heap.size, 1, none⟩ (.slice xh.1 xh.2.1 xh.2.2)).setCell ⟨w.heap.size, 2, none⟩ (.slice xk.1 xk.2.1 xk.2.2)).setCell ⟨w.heap.size, 3, none⟩ (.slice xt.1 xt.2.1 xt.2.2)) = wz := ⟨_, rfl⟩
    obtain ⟨hfin, s0, s1, s2, s3⟩ := tick_over (x := (An.read a (Rtu.pdu b)).1) (B := none) (cc := 0) (Nat.zero_le _) (S := S) (m := ⟨min (mq + 1) c.gap, .idle⟩) (.done (An.read a (Rtu.pdu b)).1) rfl b8 (zq _) hqlt HZ8.out HX8.out ⟨0, Q, ((f + 1 : Nat) : Int), t, h, k, (dA, dn, dc), b, HR.out.widen b8 HR8.out hQ0 hQ1 (.inl HR.out.sq) (fun g hg => hg.imp id (fun e => Nat.le_of_eq e.symm)) (fun g hg => by
        rcases hg with hg | rfl
        · exact Nat.lt_of_lt_of_le (HR.out.sl g hg) b8.size
        · exact hlt8), HQQ.out, rfl⟩ HR.out.sq (But.refl _ _) wz (by rw [HXE.out]; exact hwz)
    rw [hwz]
    rw [HXE.out] at s0 hfin
    have HFIN := qh (hfin.drew 1)
    have t0 : wz.drew.cell? ⟨w.heap.size, 0, none⟩ = _ := s0
    have t1 : wz.drew.cell? ⟨w.heap.size, 1, none⟩ = _ := s1
    have t2 : wz.drew.cell? ⟨w.heap.size, 2, none⟩ = _ := s2
    have t3 : wz.drew.cell? ⟨w.heap.size, 3, none⟩ = _ := s3
    clear hwz hfin s0 s1 s2 s3 y0 y1 y2 y3 o0 o1 o2 o3 p0 p1 p2 p3 x0 x1 x2 x3
    refine bodyPost_ret_by (v := .tuple #[.slice none 0 0, .int .i64 1, .agg #[.int .i64 xe, .slice xh.1 xh.2.1 xh.2.2, .slice xk.1 xk.2.1 xk.2.2, .slice xt.1 xt.2.1 xt.2.2]]) (by simp [results, Tryz.f13, go_sem, t0, t1, t2, t3]) rfl ?_
    exact HFIN.out

end Go.Proofs.YtlgmjnjhdamknaaGreat
