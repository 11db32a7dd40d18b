
/- A part of the proof of the law MasterDoes. -/
import Derived.Test.YtlgmjnjhdamknaaGreatMem
import Derived.Test.YtlgmjnjhdamknaaGreatCm8
import Derived.Test.YtlgmjnjhdamknaaGreatRth
namespace Go.Proofs.YtlgmjnjhdamknaaGreat
open Go.RowKit

set_option maxRecDepth 100000 in
set_option maxHeartbeats 4000000 in
theorem rtick8_torn (S : Nat → Prop) (q : Nat) (c : Cfg) (mq f t : Nat) (b : List UInt8) (a : Ask) (qt : Int) (h k d : Hd) (w : World)
    (hc : Ms.right c = true) (hr : RMRaw w q S c 2 qt f t a h k d b) (hq : min qt c.gap = mq) (hf : f < 2 * c.wait) (h300 : b.length ≤ 300) (hb0 : b ≠ []) (hg : c.gap ≤ min (mq + 1) c.gap) (hcd : Rtu.codeB b ≠ 0) :
    Calls Tryz.prog 13 #[.pointer (some ⟨q, 0, none⟩)] w (RTickPost S q c a w (Ms.fail c (min (mq + 1) c.gap) t a .garbled)) := by
  have hsm := cfg_small hc
  have c4 : w.cell? ⟨q, 4, none⟩ = some (.int .i64 2) := hr.cell rfl
  have c5 : w.cell? ⟨q, 5, none⟩ = some (.int .i64 qt) := hr.cell rfl
  have c6 : w.cell? ⟨q, 6, none⟩ = some (.int .i64 f) := hr.cell rfl
  have hqlt := hr.lt
  have f5 := hr.free 5
  have f6 := hr.free 6
  have q0 := hr.q0
  have q1 := hr.q1
  obtain ⟨Q, hQ⟩ : ∃ Q, min (qt + 1) 1000000 = Q := ⟨_, rfl⟩
  have hqq : min Q (c.gap : Int) = ((min (mq + 1) c.gap : Nat) : Int) := by omega
  have hQ0 : 0 ≤ Q := by omega
  have hQ1 : Q ≤ 1000000 := by omega
  have i1 : qt + 1 < 9223372036854775808 := by omega
  have i2 : (f : Int) + 1 < 9223372036854775808 := by omega
  have HR := qh hr
  have HQQ := qh hqq
  have hbn := hr.bn
  obtain ⟨dA, dn, dc⟩ := d
  have hbn : b.length = dn := hbn
  have HBN := qh hbn
  have c16 : w.cell? ⟨q, 16, none⟩ = some (.slice dA dn dc) := hr.cell rfl
  have hde : ((dn : Int) == 0) = false := by rw [beq_eq_false_iff_ne]; exact fun e => hb0 (List.eq_nil_of_length_eq_zero (by omega))
  have HG : Hid (decide ((c.gap : Int) ≤ Q) = true) := qh (by simp; omega)
  have HC3 := qh h300
  clear hsm hc hr hq hqq hbn hb0 hf hg h300
  go_enter Tryz.func13, Tryz.ntmps13
  go_wp2_with fail
  obtain ⟨w1, hw1⟩ : ∃ w1, (((w.setCell ⟨q, 5, none⟩ (.int .i64 Q)).setCell ⟨q, 6, none⟩ (.int .i64 ((f : Int) + 1))).alloc zeroAns).alloc zeroAns = w1 := ⟨_, rfl⟩
  obtain ⟨b1, r1, z0, z1, s1⟩ := tick_start2 HR.out w1 hw1
  have HR1 := qh r1
  have HZ0 := qh z0
  have HZ1 := qh z1
  unfold zeroAns at hw1
  rw [hw1]
  have m16 : w1.cell? ⟨q, 16, none⟩ = some (.slice dA dn dc) := (rm_asks r1).2.2.2.2.2.2.2.2
  obtain ⟨l0, l1, l2, l3, l4, l5, l6, l7⟩ := rm_loads r1
  clear hw1 r1 c4 c5 c6 c16 f5 f6 z0 z1
  go_quiet (fail)
  have b2 := b1.drewN nq
  have HR2 := qh (show (w1.drewN nq).heap[q]? = some (.cells (rmCells c 2 Q ((f : Int) + 1) t a h k (dA, dn, dc)) 61 (0, 0)) from HR1.out)
  have HZ02 := qh (show (w1.drewN nq).heap[w.heap.size]? = some zeroAns from HZ0.out)
  have HZ12 := qh (show (w1.drewN nq).heap[w.heap.size + 1]? = some zeroAns from HZ1.out)
  generalize w1.drewN nq = w2 at *
  clear l0 l1 l2 l3 l4 l5 l6 l7 m16
  obtain ⟨l0, l1, l2, l3, l4, l5, l6, l7⟩ := rm_loads HR2.out
  have m16 : w2.cell? ⟨q, 16, none⟩ = some (.slice dA dn dc) := (rm_asks HR2.out).2.2.2.2.2.2.2.2
  rw [HG.out]
  have HL2 := HR.out.next b2 HR2.out hQ0 hQ1
  have HRD := qh (rread3_any dA dn dc b HBN.out HL2.bc (by have := HBN.out; have := HC3.out; omega) w2 HL2.bl)
  clear HL2
  go_wp2_with fail
  refine HRD.out.mono ?_
  rintro e w3 ⟨A3, n3, k3, rfl, hn3, hc3, hm3, hl3, hb3⟩
  have hcd' : (((Rtu.codeB b : Nat) : Int) == 0) = false := by rw [beq_eq_false_iff_ne]; omega
  have HCD := qh hcd
  clear hcd
  have b3 := b2.then_below hb3
  have HR3 := qh (row_later HR2.out hb3)
  have HZ03 := qh (row_later HZ02.out hb3)
  clear l0 l1 l2 l3 l4 l5 l6 l7 m16 HRD
  go_wp2_with fail
  have b4 := b3.alloc (.cells #[u8v (Rtu.unit b), .slice A3 n3 k3] 84)
  have HR4 := qh (row_later_set HR3.out (.cells #[u8v (Rtu.unit b), .slice A3 n3 k3] 84))
  have HZ04 := qh (row_later_set HZ03.out (.cells #[u8v (Rtu.unit b), .slice A3 n3 k3] 84))
  have HF4 := qh (row_at w3 #[u8v (Rtu.unit b), .slice A3 n3 k3] 84 w3.heap.size rfl)
  have HL4 := qh (hl3.below ((Below.refl _ w3).alloc (zq _) (.cells #[u8v (Rtu.unit b), .slice A3 n3 k3] 84)) (zq _))
  have hz4 : w3.heap.size < (w3.alloc (.cells #[u8v (Rtu.unit b), .slice A3 n3 k3] 84)).heap.size := by simp
  have hq4 : q < w3.heap.size := row_lt HR3.out
  have hg4 : w.heap.size < w3.heap.size := row_lt HZ03.out
  generalize w3.alloc (.cells #[u8v (Rtu.unit b), .slice A3 n3 k3] 84) = w4 at *
  obtain ⟨l0, l1, l2, l3, l4, l5, l6, l7⟩ := rm_loads HR4.out
  obtain ⟨e0, e1⟩ := row_two8 HF4.out
  clear hb3 hl3
  go_quiet (fail)
  have b5 := b4.drewN nq
  have HR5 := qh (show (w4.drewN nq).heap[q]? = some (.cells (rmCells c 2 Q ((f : Int) + 1) t a h k (dA, dn, dc)) 61 (0, 0)) from HR4.out)
  have HZ05 := qh (show (w4.drewN nq).heap[w.heap.size]? = some zeroAns from HZ04.out)
  have HF5 := qh (show (w4.drewN nq).heap[w3.heap.size]? = some (.cells #[u8v (Rtu.unit b), .slice A3 n3 k3] 84) from HF4.out)
  have HL5 := qh (show Lies u8v (w4.drewN nq) A3 (Rtu.pdu b) from HL4.out)
  generalize w4.drewN nq = w5 at *
  clear l0 l1 l2 l3 l4 l5 l6 l7
  clear e0 e1
  obtain ⟨l0, l1, l2, l3, l4, l5, l6, l7⟩ := rm_loads HR5.out
  have m16 : w5.cell? ⟨q, 16, none⟩ = some (.slice dA dn dc) := (rm_asks HR5.out).2.2.2.2.2.2.2.2
  have HF := qh (rfailed8_any (fun y => S y ∨ y = w.heap.size) q c (min (mq + 1) c.gap) t (f + 1) b a Q h k (dA, dn, dc) w5 .garbled (.inr rfl) (HR.out.widen b5 HR5.out hQ0 hQ1 (.inl HR.out.sq) (fun g hg => hg.imp id (fun e => Nat.le_of_eq e.symm)) (fun g hg => by
      rcases hg with hg | rfl
      · exact Nat.lt_of_lt_of_le (HR.out.sl g hg) b5.size
      · exact row_lt HZ05.out)) HQQ.out)
  go_wp2_with fail
  refine HF.out.mono ?_
  rintro e wf hpost
  obtain ⟨m', oo, hR⟩ : ∃ m' oo, Ms.fail c (min (mq + 1) c.gap) t a .garbled = (m', [], oo) := ⟨_, _, Prod.ext rfl (Prod.ext (fail_nil c (min (mq + 1) c.gap) t a .garbled) rfl)⟩
  rw [hR] at hpost
  obtain ⟨B, cc, xe, xh, xk, xt, x, rfl, hcc, ho, hxe, hx, hm, hb⟩ := hpost.out
  have HX := qh hx
  have HM := qh hm
  have HO := qh ho
  have HBF := qh hb
  have HRR := qh hR
  have HCC := qh hcc
  have HXE := qh hxe
  have hzf := row_but HZ05.out hb (by rw [List.mem_singleton]; omega)
  have HZF := qh hzf
  unfold zeroAns at hzf
  obtain ⟨y0, y1, y2, y3⟩ := row_quad_free hzf
  obtain ⟨o0, o1, o2, o3⟩ := row_quad hzf
  have hltf : w.heap.size < wf.heap.size := row_lt hzf
  obtain ⟨KK, hKK⟩ : ∃ KK : Nat, Ms.kind oo = KK := ⟨_, rfl⟩
  have HKK := qh hKK
  rw [hKK]
  clear hKK hx hm ho hb hR hcc hxe hzf HF hpost l0 l1 l2 l3 l4 l5 l6 l7 m16
  go_wp2_with fail
  obtain ⟨wz, hwz⟩ : ∃ wz, ((((wf.setCell ⟨w.heap.size, 0, none⟩ (.int .i64 xe)).setCell ⟨w.heap.size, 1, none⟩ (.slice xh.1 xh.2.1 xh.2.2)).setCell ⟨w.heap.size, 2, none⟩ (.slice xk.1 xk.2.1 xk.2.2)).setCell ⟨w.heap.size, 3, none⟩ (.slice xt.1 xt.2.1 xt.2.2)) = wz := ⟨_, rfl⟩
  obtain ⟨hfin, s0, s1, s2, s3⟩ := tick_over (B := B) HCC.out oo HO.out b5 (zq _) hqlt HZ05.out HX.out HM.out HR.out.sq HBF.out wz (by rw [HXE.out]; exact hwz)
  rw [hwz]
  rw [HXE.out] at s0 hfin
  rw [HKK.out] at hfin
  have HFIN := qh hfin
  clear hwz hfin y0 y1 y2 y3 o0 o1 o2 o3
  refine bodyPost_ret_by (v := .tuple #[.slice B 0 cc, .int .i64 (KK : Int), .agg #[.int .i64 xe, .slice xh.1 xh.2.1 xh.2.2, .slice xk.1 xk.2.1 xk.2.2, .slice xt.1 xt.2.1 xt.2.2]]) (by simp [results, Tryz.f13, go_sem, s0, s1, s2, s3]) rfl ?_
  rw [HRR.out]
  exact HFIN.out

set_option maxRecDepth 100000 in
set_option maxHeartbeats 4000000 in
theorem rtick8_other (S : Nat → Prop) (q : Nat) (c : Cfg) (mq f t : Nat) (b : List UInt8) (a : Ask) (qt : Int) (h k d : Hd) (w : World)
    (hc : Ms.right c = true) (hr : RMRaw w q S c 2 qt f t a h k d b) (hq : min qt c.gap = mq) (hf : f < 2 * c.wait) (h300 : b.length ≤ 300) (hb0 : b ≠ []) (hg : c.gap ≤ min (mq + 1) c.gap) (hcd : Rtu.codeB b = 0) (hun : Rtu.unit b ≠ c.unit) :
    Calls Tryz.prog 13 #[.pointer (some ⟨q, 0, none⟩)] w (RTickPost S q c a w (Ms.fail c (min (mq + 1) c.gap) t a .garbled)) := by
  have hsm := cfg_small hc
  have c4 : w.cell? ⟨q, 4, none⟩ = some (.int .i64 2) := hr.cell rfl
  have c5 : w.cell? ⟨q, 5, none⟩ = some (.int .i64 qt) := hr.cell rfl
  have c6 : w.cell? ⟨q, 6, none⟩ = some (.int .i64 f) := hr.cell rfl
  have hqlt := hr.lt
  have f5 := hr.free 5
  have f6 := hr.free 6
  have q0 := hr.q0
  have q1 := hr.q1
  obtain ⟨Q, hQ⟩ : ∃ Q, min (qt + 1) 1000000 = Q := ⟨_, rfl⟩
  have hqq : min Q (c.gap : Int) = ((min (mq + 1) c.gap : Nat) : Int) := by omega
  have hQ0 : 0 ≤ Q := by omega
  have hQ1 : Q ≤ 1000000 := by omega
  have i1 : qt + 1 < 9223372036854775808 := by omega
  have i2 : (f : Int) + 1 < 9223372036854775808 := by omega
  have HR := qh hr
  have HQQ := qh hqq
  have hbn := hr.bn
  obtain ⟨dA, dn, dc⟩ := d
  have hbn : b.length = dn := hbn
  have HBN := qh hbn
  have c16 : w.cell? ⟨q, 16, none⟩ = some (.slice dA dn dc) := hr.cell rfl
  have hde : ((dn : Int) == 0) = false := by rw [beq_eq_false_iff_ne]; exact fun e => hb0 (List.eq_nil_of_length_eq_zero (by omega))
  have HG : Hid (decide ((c.gap : Int) ≤ Q) = true) := qh (by simp; omega)
  have HC3 := qh h300
  clear hsm hc hr hq hqq hbn hb0 hf hg h300
  go_enter Tryz.func13, Tryz.ntmps13
  go_wp2_with fail
  obtain ⟨w1, hw1⟩ : ∃ w1, (((w.setCell ⟨q, 5, none⟩ (.int .i64 Q)).setCell ⟨q, 6, none⟩ (.int .i64 ((f : Int) + 1))).alloc zeroAns).alloc zeroAns = w1 := ⟨_, rfl⟩
  obtain ⟨b1, r1, z0, z1, s1⟩ := tick_start2 HR.out w1 hw1
  have HR1 := qh r1
  have HZ0 := qh z0
  have HZ1 := qh z1
  unfold zeroAns at hw1
  rw [hw1]
  have m16 : w1.cell? ⟨q, 16, none⟩ = some (.slice dA dn dc) := (rm_asks r1).2.2.2.2.2.2.2.2
  obtain ⟨l0, l1, l2, l3, l4, l5, l6, l7⟩ := rm_loads r1
  clear hw1 r1 c4 c5 c6 c16 f5 f6 z0 z1
  go_quiet (fail)
  have b2 := b1.drewN nq
  have HR2 := qh (show (w1.drewN nq).heap[q]? = some (.cells (rmCells c 2 Q ((f : Int) + 1) t a h k (dA, dn, dc)) 61 (0, 0)) from HR1.out)
  have HZ02 := qh (show (w1.drewN nq).heap[w.heap.size]? = some zeroAns from HZ0.out)
  have HZ12 := qh (show (w1.drewN nq).heap[w.heap.size + 1]? = some zeroAns from HZ1.out)
  generalize w1.drewN nq = w2 at *
  clear l0 l1 l2 l3 l4 l5 l6 l7 m16
  obtain ⟨l0, l1, l2, l3, l4, l5, l6, l7⟩ := rm_loads HR2.out
  have m16 : w2.cell? ⟨q, 16, none⟩ = some (.slice dA dn dc) := (rm_asks HR2.out).2.2.2.2.2.2.2.2
  rw [HG.out]
  have HL2 := HR.out.next b2 HR2.out hQ0 hQ1
  have HRD := qh (rread3_any dA dn dc b HBN.out HL2.bc (by have := HBN.out; have := HC3.out; omega) w2 HL2.bl)
  clear HL2
  go_wp2_with fail
  refine HRD.out.mono ?_
  rintro e w3 ⟨A3, n3, k3, rfl, hn3, hc3, hm3, hl3, hb3⟩
  have hcd' : (((Rtu.codeB b : Nat) : Int) == 0) = true := by rw [beq_iff_eq]; omega
  have hun' : (((Rtu.unit b).toNat : Int) == (c.unit.toNat : Int)) = false := by
    rw [beq_eq_false_iff_ne]
    intro e
    exact hun (UInt8.toNat_inj.1 (by exact_mod_cast e))
  have HUN := qh hun'
  clear hcd hun hun'
  have b3 := b2.then_below hb3
  have HR3 := qh (row_later HR2.out hb3)
  have HZ03 := qh (row_later HZ02.out hb3)
  clear l0 l1 l2 l3 l4 l5 l6 l7 m16 HRD
  go_wp2_with fail
  have b4 := b3.alloc (.cells #[u8v (Rtu.unit b), .slice A3 n3 k3] 84)
  have HR4 := qh (row_later_set HR3.out (.cells #[u8v (Rtu.unit b), .slice A3 n3 k3] 84))
  have HZ04 := qh (row_later_set HZ03.out (.cells #[u8v (Rtu.unit b), .slice A3 n3 k3] 84))
  have HF4 := qh (row_at w3 #[u8v (Rtu.unit b), .slice A3 n3 k3] 84 w3.heap.size rfl)
  have HL4 := qh (hl3.below ((Below.refl _ w3).alloc (zq _) (.cells #[u8v (Rtu.unit b), .slice A3 n3 k3] 84)) (zq _))
  have hz4 : w3.heap.size < (w3.alloc (.cells #[u8v (Rtu.unit b), .slice A3 n3 k3] 84)).heap.size := by simp
  have hq4 : q < w3.heap.size := row_lt HR3.out
  have hg4 : w.heap.size < w3.heap.size := row_lt HZ03.out
  generalize w3.alloc (.cells #[u8v (Rtu.unit b), .slice A3 n3 k3] 84) = w4 at *
  obtain ⟨l0, l1, l2, l3, l4, l5, l6, l7⟩ := rm_loads HR4.out
  obtain ⟨e0, e1⟩ := row_two8 HF4.out
  clear hb3 hl3
  have hun' := HUN.out
  go_quiet (fail)
  have b5 := b4.drewN nq
  have HR5 := qh (show (w4.drewN nq).heap[q]? = some (.cells (rmCells c 2 Q ((f : Int) + 1) t a h k (dA, dn, dc)) 61 (0, 0)) from HR4.out)
  have HZ05 := qh (show (w4.drewN nq).heap[w.heap.size]? = some zeroAns from HZ04.out)
  have HF5 := qh (show (w4.drewN nq).heap[w3.heap.size]? = some (.cells #[u8v (Rtu.unit b), .slice A3 n3 k3] 84) from HF4.out)
  have HL5 := qh (show Lies u8v (w4.drewN nq) A3 (Rtu.pdu b) from HL4.out)
  generalize w4.drewN nq = w5 at *
  clear l0 l1 l2 l3 l4 l5 l6 l7
  clear e0 e1
  obtain ⟨l0, l1, l2, l3, l4, l5, l6, l7⟩ := rm_loads HR5.out
  have m16 : w5.cell? ⟨q, 16, none⟩ = some (.slice dA dn dc) := (rm_asks HR5.out).2.2.2.2.2.2.2.2
  have HF := qh (rfailed8_any (fun y => S y ∨ y = w.heap.size) q c (min (mq + 1) c.gap) t (f + 1) b a Q h k (dA, dn, dc) w5 .garbled (.inr rfl) (HR.out.widen b5 HR5.out hQ0 hQ1 (.inl HR.out.sq) (fun g hg => hg.imp id (fun e => Nat.le_of_eq e.symm)) (fun g hg => by
      rcases hg with hg | rfl
      · exact Nat.lt_of_lt_of_le (HR.out.sl g hg) b5.size
      · exact row_lt HZ05.out)) HQQ.out)
  go_wp2_with fail
  refine HF.out.mono ?_
  rintro e wf hpost
  obtain ⟨m', oo, hR⟩ : ∃ m' oo, Ms.fail c (min (mq + 1) c.gap) t a .garbled = (m', [], oo) := ⟨_, _, Prod.ext rfl (Prod.ext (fail_nil c (min (mq + 1) c.gap) t a .garbled) rfl)⟩
  rw [hR] at hpost
  obtain ⟨B, cc, xe, xh, xk, xt, x, rfl, hcc, ho, hxe, hx, hm, hb⟩ := hpost.out
  have HX := qh hx
  have HM := qh hm
  have HO := qh ho
  have HBF := qh hb
  have HRR := qh hR
  have HCC := qh hcc
  have HXE := qh hxe
  have hzf := row_but HZ05.out hb (by rw [List.mem_singleton]; omega)
  have HZF := qh hzf
  unfold zeroAns at hzf
  obtain ⟨y0, y1, y2, y3⟩ := row_quad_free hzf
  obtain ⟨o0, o1, o2, o3⟩ := row_quad hzf
  have hltf : w.heap.size < wf.heap.size := row_lt hzf
  obtain ⟨KK, hKK⟩ : ∃ KK : Nat, Ms.kind oo = KK := ⟨_, rfl⟩
  have HKK := qh hKK
  rw [hKK]
  clear hKK hx hm ho hb hR hcc hxe hzf HF hpost l0 l1 l2 l3 l4 l5 l6 l7 m16
  go_wp2_with fail
  obtain ⟨wz, hwz⟩ : ∃ wz, ((((wf.setCell ⟨w.heap.size, 0, none⟩ (.int .i64 xe)).setCell ⟨w.heap.size, 1, none⟩ (.slice xh.1 xh.2.1 xh.2.2)).setCell ⟨w.heap.size, 2, none⟩ (.slice xk.1 xk.2.1 xk.2.2)).setCell ⟨w.heap.size, 3, none⟩ (.slice xt.1 xt.2.1 xt.2.2)) = wz := ⟨_, rfl⟩
  obtain ⟨hfin, s0, s1, s2, s3⟩ := tick_over (B := B) HCC.out oo HO.out b5 (zq _) hqlt HZ05.out HX.out HM.out HR.out.sq HBF.out wz (by rw [HXE.out]; exact hwz)
  rw [hwz]
  rw [HXE.out] at s0 hfin
  rw [HKK.out] at hfin
  have HFIN := qh hfin
  clear hwz hfin y0 y1 y2 y3 o0 o1 o2 o3
  refine bodyPost_ret_by (v := .tuple #[.slice B 0 cc, .int .i64 (KK : Int), .agg #[.int .i64 xe, .slice xh.1 xh.2.1 xh.2.2, .slice xk.1 xk.2.1 xk.2.2, .slice xt.1 xt.2.1 xt.2.2]]) (by simp [results, Tryz.f13, go_sem, s0, s1, s2, s3]) rfl ?_
  rw [HRR.out]
  exact HFIN.out

end Go.Proofs.YtlgmjnjhdamknaaGreat
