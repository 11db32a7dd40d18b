
/- A part of the proof of the law MasterDoes. -/
import Derived.Test.YtlgmjnjhdamknaaGreatMem
import Derived.Test.YtlgmjnjhdamknaaGreatRtw
import Derived.Test.YtlgmjnjhdamknaaGreatBr7
import Derived.Test.YtlgmjnjhdamknaaGreatTz
import Derived.Deep.RegionHeld3
namespace Go.Proofs.YtlgmjnjhdamknaaGreat
open Go.RowKit

theorem RMRaw.widen {w w' : World} {q : Nat} {S S' : Nat → Prop} {c : Cfg} {st qt sp tr st' qt' sp' tr' : Int} {a : Ask} {h k d : Hd} {b : List UInt8} (x : RMRaw w q S c st qt sp tr a h k d b) (hb : But [q] w w') (hr : w'.heap[q]? = some (.cells (rmCells c st' qt' sp' tr' a h k d) 61 (0, 0))) (q0 : 0 ≤ qt') (q1 : qt' ≤ 1000000)
    (h1 : S' q) (h2 : ∀ g, S' g → S g ∨ w.heap.size ≤ g) (h3 : ∀ g, S' g → g < w'.heap.size) : RMRaw w' q S' c st' qt' sp' tr' a h k d b := by
  have y := x.next hb hr q0 q1
  refine ⟨y.row, y.ins, y.bn, y.bc, y.bm, y.bl, h1, h3, fun g o s e h0 hS => ?_, fun g o s e h0 hS => ?_, fun g o s e h0 hS => ?_, q0, q1⟩
  · rcases h2 g hS with h4 | h4
    · exact x.fh g o s e h0 h4
    · exact absurd (lies_old x.ins.hl g o s e (by rw [x.ins.hn]; exact h0)) (by omega)
  · rcases h2 g hS with h4 | h4
    · exact x.fk g o s e h0 h4
    · exact absurd (lies_old x.ins.kl g o s e (by rw [x.ins.kn]; exact h0)) (by omega)
  · rcases h2 g hS with h4 | h4
    · exact x.fd g o s e h0 h4
    · exact absurd (lies_old x.bl g o s e (by rw [x.bn]; exact h0)) (by omega)
theorem tick_over {B : Option Addr} {cc : Nat} (hcc : cc ≤ maxLen) {S : Nat → Prop} {q g : Nat} {c : Cfg} {a : Ask} {w w1 w2 : World} {m : Mst} {x : Ans} {h k t : Hd} (o : MOut) (ho : Ms.ans o = x) (hb : But [q] w w1) (hg : w.heap.size ≤ g) (hq : q < w.heap.size) (hz : w1.heap[g]? = some zeroAns)
    (hx : AnsIn w2 x h k t) (hm : RMAtA w2 (fun y => S y ∨ y = g) q c a m) (hS : S q) (hb2 : But [q] w1 w2) (W : World) (hW : ((((w2.setCell ⟨g, 0, none⟩ (.int .i64 x.exc)).setCell ⟨g, 1, none⟩ (.slice h.1 h.2.1 h.2.2)).setCell ⟨g, 2, none⟩ (.slice k.1 k.2.1 k.2.2)).setCell ⟨g, 3, none⟩ (.slice t.1 t.2.1 t.2.2)) = W) :
    RTickPost S q c a w (m, [], o) (.returned (.tuple #[.slice B 0 cc, .int .i64 ((Ms.kind o : Nat) : Int), .agg #[.int .i64 x.exc, .slice h.1 h.2.1 h.2.2, .slice k.1 k.2.1 k.2.2, .slice t.1 t.2.1 t.2.2]])) W ∧ (W.cell? ⟨g, 0, none⟩ = some (.int .i64 x.exc) ∧ W.cell? ⟨g, 1, none⟩ = some (.slice h.1 h.2.1 h.2.2) ∧ W.cell? ⟨g, 2, none⟩ = some (.slice k.1 k.2.1 k.2.2) ∧ W.cell? ⟨g, 3, none⟩ = some (.slice t.1 t.2.1 t.2.2)) := by
  have hz2 : w2.heap[g]? = some zeroAns := row_but hz hb2 (by rw [List.mem_singleton]; omega)
  unfold zeroAns at hz2
  subst ho
  have hx4 := hx.four hz2 (.int .i64 (Ms.ans o).exc) (.slice h.1 h.2.1 h.2.2) (.slice k.1 k.2.1 k.2.2) (.slice t.1 t.2.1 t.2.2)
  have hr4 := row_quad (stored_four8 hz2 (.int .i64 (Ms.ans o).exc) (.slice h.1 h.2.1 h.2.2) (.slice k.1 k.2.1 k.2.2) (.slice t.1 t.2.1 t.2.2))
  have hg4 : But [g] w2 _ := but_four (But.refl [g] w2) (.inl (List.mem_singleton.2 rfl)) (.int .i64 (Ms.ans o).exc) (.slice h.1 h.2.1 h.2.2) (.slice k.1 k.2.1 k.2.2) (.slice t.1 t.2.1 t.2.2)
  have hq4 : But [q] w _ := but_four (hb.trans hb2) (.inr hg) (.int .i64 (Ms.ans o).exc) (.slice h.1 h.2.1 h.2.2) (.slice k.1 k.2.1 k.2.2) (.slice t.1 t.2.1 t.2.2)
  rw [hW] at hx4 hr4 hg4 hq4
  obtain ⟨st, qt, sp, tr, h', k', d', b', hr, h1, h2⟩ := hm
  exact ⟨⟨B, 0, cc, h, k, t, rfl, rfl, Nat.zero_le _, hcc, Lies.nil _ _, hx4, ⟨st, qt, sp, tr, h', k', d', b', (hr.but hg4 (fun y hy => .inr (List.mem_singleton.1 hy)) (by rw [List.mem_singleton]; omega)).narrow (fun y hy => .inl hy) hS, h1, h2⟩, hq4⟩, hr4⟩

theorem RTickPost.out {S : Nat → Prop} {q : Nat} {c : Cfg} {a : Ask} {w w' : World} {m : Mst} {o : MOut} {e : Ending} (h : RTickPost S q c a w (m, [], o) e w') :
    ∃ B cc xe xh xk xt x, e = .returned (.tuple #[.slice B 0 cc, .int .i64 ((Ms.kind o : Nat) : Int), .agg #[.int .i64 xe, .slice xh.1 xh.2.1 xh.2.2, .slice xk.1 xk.2.1 xk.2.2, .slice xt.1 xt.2.1 xt.2.2]]) ∧ cc ≤ maxLen ∧ Ms.ans o = x ∧ x.exc = xe ∧ AnsIn w' x xh xk xt ∧ RMAtA w' S q c a m ∧ But [q] w w' := by
  obtain ⟨B, n, cc, h, k, t, he, hn, _, hcc, _, hx, hm, hb⟩ := h
  obtain rfl : 0 = n := hn
  exact ⟨B, cc, _, h, k, t, _, he, hcc, rfl, rfl, hx, hm, hb⟩
set_option maxRecDepth 100000 in
set_option maxHeartbeats 4000000 in
theorem rtick8_waits_on (S : Nat → Prop) (q : Nat) (c : Cfg) (mq f t : Nat) (b : List UInt8) (a : Ask) (qt : Int) (h k d : Hd) (w : World)
    (hc : Ms.right c = true) (hr : RMRaw w q S c 2 qt f t a h k d b) (hq : min qt c.gap = mq) (_hf : f < 2 * c.wait) (_h300 : b.length ≤ 300) (hb0 : b = []) (hw : f + 1 < c.wait) :
    Calls Tryz.prog 13 #[.pointer (some ⟨q, 0, none⟩)] w (RTickPost S q c a w (⟨min (mq + 1) c.gap, .waits (f + 1) t a b⟩, [], .none)) := by
  have hsm := cfg_small hc
  have c4 : w.cell? ⟨q, 4, none⟩ = some (.int .i64 2) := hr.cell rfl
  have c5 : w.cell? ⟨q, 5, none⟩ = some (.int .i64 qt) := hr.cell rfl
  have c6 : w.cell? ⟨q, 6, none⟩ = some (.int .i64 f) := hr.cell rfl
  have hqlt := hr.lt
  have f5 := hr.free 5
  have f6 := hr.free 6
  have q0 := hr.q0
  have q1 := hr.q1
  obtain ⟨Q, hQ⟩ : ∃ Q, min (qt + 1) 1000000 = Q := ⟨_, rfl⟩
  have hqq : min Q (c.gap : Int) = ((min (mq + 1) c.gap : Nat) : Int) := by omega
  have hQ0 : 0 ≤ Q := by omega
  have hQ1 : Q ≤ 1000000 := by omega
  have i1 : qt + 1 < 9223372036854775808 := by omega
  have i2 : (f : Int) + 1 < 9223372036854775808 := by omega
  have HR := qh hr
  have HQQ := qh hqq
  have hbn := hr.bn
  obtain ⟨dA, dn, dc⟩ := d
  have hbn : b.length = dn := hbn
  have HBN := qh hbn
  have c16 : w.cell? ⟨q, 16, none⟩ = some (.slice dA dn dc) := hr.cell rfl
  have hdn : dn = 0 := by rw [← hbn, hb0]; rfl
  subst hdn
  have hw' : (f : Int) + 1 < (c.wait : Int) := by omega
  clear hsm hc hr hq hqq hbn hb0 hw _hf
  go_enter Tryz.func13, Tryz.ntmps13
  go_wp2_with fail
  obtain ⟨w1, hw1⟩ : ∃ w1, (((w.setCell ⟨q, 5, none⟩ (.int .i64 Q)).setCell ⟨q, 6, none⟩ (.int .i64 ((f : Int) + 1))).alloc zeroAns).alloc zeroAns = w1 := ⟨_, rfl⟩
  obtain ⟨b1, r1, z0, z1, s1⟩ := tick_start2 HR.out w1 hw1
  have HR1 := qh r1
  have HZ0 := qh z0
  have HZ1 := qh z1
  unfold zeroAns at hw1
  rw [hw1]
  have m16 : w1.cell? ⟨q, 16, none⟩ = some (.slice dA 0 dc) := (rm_asks r1).2.2.2.2.2.2.2.2
  obtain ⟨l0, l1, l2, l3, l4, l5, l6, l7⟩ := rm_loads r1
  clear hw1 r1 c4 c5 c6 c16 f5 f6 z0 z1
  have hd2 : ¬ (f : Int) + 1 ≥ (c.wait : Int) := (by omega)
  go_quiet (fail)
  have b2 := b1.drewN nq
  have HR2 := qh (show (w1.drewN nq).heap[q]? = some (.cells (rmCells c 2 Q ((f : Int) + 1) t a h k (dA, 0, dc)) 61 (0, 0)) from HR1.out)
  have HZ02 := qh (show (w1.drewN nq).heap[w.heap.size]? = some zeroAns from HZ0.out)
  have HZ12 := qh (show (w1.drewN nq).heap[w.heap.size + 1]? = some zeroAns from HZ1.out)
  generalize w1.drewN nq = w2 at *
  clear l0 l1 l2 l3 l4 l5 l6 l7 m16
  obtain ⟨l0, l1, l2, l3, l4, l5, l6, l7⟩ := rm_loads HR2.out
  have m16 : w2.cell? ⟨q, 16, none⟩ = some (.slice dA 0 dc) := (rm_asks HR2.out).2.2.2.2.2.2.2.2
  go_wp2_with fail
  obtain ⟨p0, p1, p2, p3⟩ := row_quad HZ12.out
  obtain ⟨x0, x1, x2, x3⟩ := row_quad_free HZ12.out
  obtain ⟨o0, o1, o2, o3⟩ := row_quad HZ02.out
  obtain ⟨y0, y1, y2, y3⟩ := row_quad_free HZ02.out
  go_region
  go_wp2_with fail
  obtain ⟨wz, hwz⟩ : ∃ wz, ((((w2.setCell ⟨w.heap.size, 0, none⟩ (.int .i64 0)).setCell ⟨w.heap.size, 1, none⟩ (.slice none 0 0)).setCell ⟨w.heap.size, 2, none⟩ (.slice none 0 0)).setCell ⟨w.heap.size, 3, none⟩ (.slice none 0 0)).drew = wz := ⟨_, rfl⟩
  obtain ⟨hb, hrow, ⟨s0, s1, s2, s3⟩, hT⟩ := tick_put (g := w.heap.size) b2 HR2.out HZ02.out (zq _) hqlt 1 _ _ _ _ wz hwz
  rw [hwz]
  clear hwz p0 p1 p2 p3 o0 o1 o2 o3 y0 y1 y2 y3 x0 x1 x2 x3
  refine bodyPost_ret_by (v := .tuple #[.slice none 0 0, .int .i64 0, .agg #[.int .i64 0, .slice none 0 0, .slice none 0 0, .slice none 0 0]]) (by simp [results, Tryz.f13, go_sem, s0, s1, s2, s3]) rfl ?_
  exact ⟨none, 0, 0, (none, 0, 0), (none, 0, 0), (none, 0, 0), rfl, rfl, zq _, Nat.zero_le _, Lies.nil _ _, AnsIn.zero _, ⟨2, Q, ((f + 1 : Nat) : Int), t, h, k, (dA, 0, dc), b, HR.out.next hb hrow hQ0 hQ1, HQQ.out, rfl, rfl, rfl, rfl, rfl⟩, hb⟩

set_option maxRecDepth 100000 in
set_option maxHeartbeats 4000000 in
theorem rtick8_silent (S : Nat → Prop) (q : Nat) (c : Cfg) (mq f t : Nat) (b : List UInt8) (a : Ask) (qt : Int) (h k d : Hd) (w : World)
    (hc : Ms.right c = true) (hr : RMRaw w q S c 2 qt f t a h k d b) (hq : min qt c.gap = mq) (hf : f < 2 * c.wait) (_h300 : b.length ≤ 300) (hb0 : b = []) (hw : c.wait ≤ f + 1) :
    Calls Tryz.prog 13 #[.pointer (some ⟨q, 0, none⟩)] w (RTickPost S q c a w (Ms.fail c (min (mq + 1) c.gap) t a .silent)) := by
  have hsm := cfg_small hc
  have c4 : w.cell? ⟨q, 4, none⟩ = some (.int .i64 2) := hr.cell rfl
  have c5 : w.cell? ⟨q, 5, none⟩ = some (.int .i64 qt) := hr.cell rfl
  have c6 : w.cell? ⟨q, 6, none⟩ = some (.int .i64 f) := hr.cell rfl
  have hqlt := hr.lt
  have f5 := hr.free 5
  have f6 := hr.free 6
  have q0 := hr.q0
  have q1 := hr.q1
  obtain ⟨Q, hQ⟩ : ∃ Q, min (qt + 1) 1000000 = Q := ⟨_, rfl⟩
  have hqq : min Q (c.gap : Int) = ((min (mq + 1) c.gap : Nat) : Int) := by omega
  have hQ0 : 0 ≤ Q := by omega
  have hQ1 : Q ≤ 1000000 := by omega
  have i1 : qt + 1 < 9223372036854775808 := by omega
  have i2 : (f : Int) + 1 < 9223372036854775808 := by omega
  have HR := qh hr
  have HQQ := qh hqq
  have hbn := hr.bn
  obtain ⟨dA, dn, dc⟩ := d
  have hbn : b.length = dn := hbn
  have HBN := qh hbn
  have c16 : w.cell? ⟨q, 16, none⟩ = some (.slice dA dn dc) := hr.cell rfl
  have hdn : dn = 0 := by rw [← hbn, hb0]; rfl
  subst hdn
  have hw' : (c.wait : Int) ≤ (f : Int) + 1 := by omega
  clear hsm hc hr hq hqq hbn hb0 hw hf
  have hw := hw'
  clear hw'
  go_enter Tryz.func13, Tryz.ntmps13
  go_wp2_with fail
  obtain ⟨w1, hw1⟩ : ∃ w1, (((w.setCell ⟨q, 5, none⟩ (.int .i64 Q)).setCell ⟨q, 6, none⟩ (.int .i64 ((f : Int) + 1))).alloc zeroAns).alloc zeroAns = w1 := ⟨_, rfl⟩
  obtain ⟨b1, r1, z0, z1, s1⟩ := tick_start2 HR.out w1 hw1
  have HR1 := qh r1
  have HZ0 := qh z0
  have HZ1 := qh z1
  unfold zeroAns at hw1
  rw [hw1]
  have m16 : w1.cell? ⟨q, 16, none⟩ = some (.slice dA 0 dc) := (rm_asks r1).2.2.2.2.2.2.2.2
  obtain ⟨l0, l1, l2, l3, l4, l5, l6, l7⟩ := rm_loads r1
  clear hw1 r1 c4 c5 c6 c16 f5 f6 z0 z1
  go_quiet (fail)
  have b2 := b1.drewN nq
  have HR2 := qh (show (w1.drewN nq).heap[q]? = some (.cells (rmCells c 2 Q ((f : Int) + 1) t a h k (dA, 0, dc)) 61 (0, 0)) from HR1.out)
  have HZ02 := qh (show (w1.drewN nq).heap[w.heap.size]? = some zeroAns from HZ0.out)
  have HZ12 := qh (show (w1.drewN nq).heap[w.heap.size + 1]? = some zeroAns from HZ1.out)
  generalize w1.drewN nq = w2 at *
  clear l0 l1 l2 l3 l4 l5 l6 l7 m16
  obtain ⟨l0, l1, l2, l3, l4, l5, l6, l7⟩ := rm_loads HR2.out
  have m16 : w2.cell? ⟨q, 16, none⟩ = some (.slice dA 0 dc) := (rm_asks HR2.out).2.2.2.2.2.2.2.2
  have HF := qh (rfailed8_any (fun y => S y ∨ y = w.heap.size) q c (min (mq + 1) c.gap) t (f + 1) b a Q h k (dA, 0, dc) w2 .silent (.inl rfl) (HR.out.widen b2 HR2.out hQ0 hQ1 (.inl HR.out.sq) (fun g hg => hg.imp id (fun e => Nat.le_of_eq e.symm)) (fun g hg => by
      rcases hg with hg | rfl
      · exact Nat.lt_of_lt_of_le (HR.out.sl g hg) b2.size
      · exact row_lt HZ02.out)) HQQ.out)
  go_wp2_with fail
  refine HF.out.mono ?_
  rintro e wf hpost
  obtain ⟨m', oo, hR⟩ : ∃ m' oo, Ms.fail c (min (mq + 1) c.gap) t a .silent = (m', [], oo) := ⟨_, _, Prod.ext rfl (Prod.ext (fail_nil c (min (mq + 1) c.gap) t a .silent) rfl)⟩
  rw [hR] at hpost
  obtain ⟨B, cc, xe, xh, xk, xt, x, rfl, hcc, ho, hxe, hx, hm, hb⟩ := hpost.out
  have HX := qh hx
  have HM := qh hm
  have HO := qh ho
  have HBF := qh hb
  have HRR := qh hR
  have HCC := qh hcc
  have HXE := qh hxe
  have hzf := row_but HZ02.out hb (by rw [List.mem_singleton]; omega)
  have HZF := qh hzf
  unfold zeroAns at hzf
  obtain ⟨y0, y1, y2, y3⟩ := row_quad_free hzf
  obtain ⟨o0, o1, o2, o3⟩ := row_quad hzf
  have hltf : w.heap.size < wf.heap.size := row_lt hzf
  obtain ⟨KK, hKK⟩ : ∃ KK : Nat, Ms.kind oo = KK := ⟨_, rfl⟩
  have HKK := qh hKK
  rw [hKK]
  clear hKK hx hm ho hb hR hcc hxe hzf HF hpost l0 l1 l2 l3 l4 l5 l6 l7 m16 hw
  go_wp2_with fail
  obtain ⟨wz, hwz⟩ : ∃ wz, ((((wf.setCell ⟨w.heap.size, 0, none⟩ (.int .i64 xe)).setCell ⟨w.heap.size, 1, none⟩ (.slice xh.1 xh.2.1 xh.2.2)).setCell ⟨w.heap.size, 2, none⟩ (.slice xk.1 xk.2.1 xk.2.2)).setCell ⟨w.heap.size, 3, none⟩ (.slice xt.1 xt.2.1 xt.2.2)) = wz := ⟨_, rfl⟩
  obtain ⟨hfin, s0, s1, s2, s3⟩ := tick_over (B := B) HCC.out oo HO.out b2 (zq _) hqlt HZ02.out HX.out HM.out HR.out.sq HBF.out wz (by rw [HXE.out]; exact hwz)
  rw [hwz]
  rw [HXE.out] at s0 hfin
  rw [HKK.out] at hfin
  have HFIN := qh hfin
  clear hwz hfin y0 y1 y2 y3 o0 o1 o2 o3
  refine bodyPost_ret_by (v := .tuple #[.slice B 0 cc, .int .i64 (KK : Int), .agg #[.int .i64 xe, .slice xh.1 xh.2.1 xh.2.2, .slice xk.1 xk.2.1 xk.2.2, .slice xt.1 xt.2.1 xt.2.2]]) (by simp [results, Tryz.f13, go_sem, s0, s1, s2, s3]) rfl ?_
  rw [HRR.out]
  exact HFIN.out

set_option maxRecDepth 100000 in
set_option maxHeartbeats 4000000 in
theorem rtick8_late (S : Nat → Prop) (q : Nat) (c : Cfg) (mq f t : Nat) (b : List UInt8) (a : Ask) (qt : Int) (h k d : Hd) (w : World)
    (hc : Ms.right c = true) (hr : RMRaw w q S c 2 qt f t a h k d b) (hq : min qt c.gap = mq) (hf : f < 2 * c.wait) (h300 : b.length ≤ 300) (hb0 : b ≠ []) (hg : ¬ c.gap ≤ min (mq + 1) c.gap) (hw : 2 * c.wait ≤ f + 1) :
    Calls Tryz.prog 13 #[.pointer (some ⟨q, 0, none⟩)] w (RTickPost S q c a w (Ms.fail c (min (mq + 1) c.gap) t a .garbled)) := by
  have hsm := cfg_small hc
  have c4 : w.cell? ⟨q, 4, none⟩ = some (.int .i64 2) := hr.cell rfl
  have c5 : w.cell? ⟨q, 5, none⟩ = some (.int .i64 qt) := hr.cell rfl
  have c6 : w.cell? ⟨q, 6, none⟩ = some (.int .i64 f) := hr.cell rfl
  have hqlt := hr.lt
  have f5 := hr.free 5
  have f6 := hr.free 6
  have q0 := hr.q0
  have q1 := hr.q1
  obtain ⟨Q, hQ⟩ : ∃ Q, min (qt + 1) 1000000 = Q := ⟨_, rfl⟩
  have hqq : min Q (c.gap : Int) = ((min (mq + 1) c.gap : Nat) : Int) := by omega
  have hQ0 : 0 ≤ Q := by omega
  have hQ1 : Q ≤ 1000000 := by omega
  have i1 : qt + 1 < 9223372036854775808 := by omega
  have i2 : (f : Int) + 1 < 9223372036854775808 := by omega
  have HR := qh hr
  have HQQ := qh hqq
  have hbn := hr.bn
  obtain ⟨dA, dn, dc⟩ := d
  have hbn : b.length = dn := hbn
  have HBN := qh hbn
  have c16 : w.cell? ⟨q, 16, none⟩ = some (.slice dA dn dc) := hr.cell rfl
  have hdn : ¬ (dn : Int) = 0 := fun e => hb0 (List.eq_nil_of_length_eq_zero (by omega))
  have hg' : decide ((c.gap : Int) ≤ Q) = false := by simp; omega
  have hw' : decide (2 * (c.wait : Int) ≤ (f : Int) + 1) = true := by simp; omega
  have i3 : 2 * (c.wait : Int) < 9223372036854775808 := by omega
  have HG := qh hg'
  have HW := qh hw'
  have HI3 := qh i3
  have hde : ((dn : Int) == 0) = false := by rw [beq_eq_false_iff_ne]; exact hdn
  clear hsm hc hr hq hqq hbn hb0 hw hf hg hg' hw' i3 hdn
  go_enter Tryz.func13, Tryz.ntmps13
  go_wp2_with fail
  obtain ⟨w1, hw1⟩ : ∃ w1, (((w.setCell ⟨q, 5, none⟩ (.int .i64 Q)).setCell ⟨q, 6, none⟩ (.int .i64 ((f : Int) + 1))).alloc zeroAns).alloc zeroAns = w1 := ⟨_, rfl⟩
  obtain ⟨b1, r1, z0, z1, s1⟩ := tick_start2 HR.out w1 hw1
  have HR1 := qh r1
  have HZ0 := qh z0
  have HZ1 := qh z1
  unfold zeroAns at hw1
  rw [hw1]
  have m16 : w1.cell? ⟨q, 16, none⟩ = some (.slice dA dn dc) := (rm_asks r1).2.2.2.2.2.2.2.2
  obtain ⟨l0, l1, l2, l3, l4, l5, l6, l7⟩ := rm_loads r1
  clear hw1 r1 c4 c5 c6 c16 f5 f6 z0 z1
  go_quiet (fail)
  have b2 := b1.drewN nq
  have HR2 := qh (show (w1.drewN nq).heap[q]? = some (.cells (rmCells c 2 Q ((f : Int) + 1) t a h k (dA, dn, dc)) 61 (0, 0)) from HR1.out)
  have HZ02 := qh (show (w1.drewN nq).heap[w.heap.size]? = some zeroAns from HZ0.out)
  have HZ12 := qh (show (w1.drewN nq).heap[w.heap.size + 1]? = some zeroAns from HZ1.out)
  generalize w1.drewN nq = w2 at *
  clear l0 l1 l2 l3 l4 l5 l6 l7 m16
  obtain ⟨l0, l1, l2, l3, l4, l5, l6, l7⟩ := rm_loads HR2.out
  have m16 : w2.cell? ⟨q, 16, none⟩ = some (.slice dA dn dc) := (rm_asks HR2.out).2.2.2.2.2.2.2.2
  rw [HG.out]
  go_wp2_with fail
  have i3 := HI3.out
  go_quiet (fail)
  have b3 := b2.drewN nq
  have HR3 := qh (show (w2.drewN nq).heap[q]? = some (.cells (rmCells c 2 Q ((f : Int) + 1) t a h k (dA, dn, dc)) 61 (0, 0)) from HR2.out)
  have HZ03 := qh (show (w2.drewN nq).heap[w.heap.size]? = some zeroAns from HZ02.out)
  have HZ13 := qh (show (w2.drewN nq).heap[w.heap.size + 1]? = some zeroAns from HZ12.out)
  generalize w2.drewN nq = w3 at *
  clear l0 l1 l2 l3 l4 l5 l6 l7 m16
  obtain ⟨l0, l1, l2, l3, l4, l5, l6, l7⟩ := rm_loads HR3.out
  have m16 : w3.cell? ⟨q, 16, none⟩ = some (.slice dA dn dc) := (rm_asks HR3.out).2.2.2.2.2.2.2.2
  rw [HW.out]
  have HF := qh (rfailed8_any (fun y => S y ∨ y = w.heap.size) q c (min (mq + 1) c.gap) t (f + 1) b a Q h k (dA, dn, dc) w3 .garbled (.inr rfl) (HR.out.widen b3 HR3.out hQ0 hQ1 (.inl HR.out.sq) (fun g hg => hg.imp id (fun e => Nat.le_of_eq e.symm)) (fun g hg => by
      rcases hg with hg | rfl
      · exact Nat.lt_of_lt_of_le (HR.out.sl g hg) b3.size
      · exact row_lt HZ03.out)) HQQ.out)
  go_wp2_with fail
  refine HF.out.mono ?_
  rintro e wf hpost
  obtain ⟨m', oo, hR⟩ : ∃ m' oo, Ms.fail c (min (mq + 1) c.gap) t a .garbled = (m', [], oo) := ⟨_, _, Prod.ext rfl (Prod.ext (fail_nil c (min (mq + 1) c.gap) t a .garbled) rfl)⟩
  rw [hR] at hpost
  obtain ⟨B, cc, xe, xh, xk, xt, x, rfl, hcc, ho, hxe, hx, hm, hb⟩ := hpost.out
  have HX := qh hx
  have HM := qh hm
  have HO := qh ho
  have HBF := qh hb
  have HRR := qh hR
  have HCC := qh hcc
  have HXE := qh hxe
  have hzf := row_but HZ03.out hb (by rw [List.mem_singleton]; omega)
  have HZF := qh hzf
  unfold zeroAns at hzf
  obtain ⟨y0, y1, y2, y3⟩ := row_quad_free hzf
  obtain ⟨o0, o1, o2, o3⟩ := row_quad hzf
  have hltf : w.heap.size < wf.heap.size := row_lt hzf
  obtain ⟨KK, hKK⟩ : ∃ KK : Nat, Ms.kind oo = KK := ⟨_, rfl⟩
  have HKK := qh hKK
  rw [hKK]
  clear hKK hx hm ho hb hR hcc hxe hzf HF hpost l0 l1 l2 l3 l4 l5 l6 l7 m16
  go_wp2_with fail
  obtain ⟨wz, hwz⟩ : ∃ wz, ((((wf.setCell ⟨w.heap.size, 0, none⟩ (.int .i64 xe)).setCell ⟨w.heap.size, 1, none⟩ (.slice xh.1 xh.2.1 xh.2.2)).setCell ⟨w.heap.size, 2, none⟩ (.slice xk.1 xk.2.1 xk.2.2)).setCell ⟨w.heap.size, 3, none⟩ (.slice xt.1 xt.2.1 xt.2.2)) = wz := ⟨_, rfl⟩
  obtain ⟨hfin, s0, s1, s2, s3⟩ := tick_over (B := B) HCC.out oo HO.out b3 (zq _) hqlt HZ03.out HX.out HM.out HR.out.sq HBF.out wz (by rw [HXE.out]; exact hwz)
  rw [hwz]
  rw [HXE.out] at s0 hfin
  rw [HKK.out] at hfin
  have HFIN := qh hfin
  clear hwz hfin y0 y1 y2 y3 o0 o1 o2 o3
  refine bodyPost_ret_by (v := .tuple #[.slice B 0 cc, .int .i64 (KK : Int), .agg #[.int .i64 xe, .slice xh.1 xh.2.1 xh.2.2, .slice xk.1 xk.2.1 xk.2.2, .slice xt.1 xt.2.1 xt.2.2]]) (by simp [results, Tryz.f13, go_sem, s0, s1, s2, s3]) rfl ?_
  rw [HRR.out]
  exact HFIN.out

set_option maxRecDepth 100000 in
set_option maxHeartbeats 4000000 in
theorem rtick8_waits_more (S : Nat → Prop) (q : Nat) (c : Cfg) (mq f t : Nat) (b : List UInt8) (a : Ask) (qt : Int) (h k d : Hd) (w : World)
    (hc : Ms.right c = true) (hr : RMRaw w q S c 2 qt f t a h k d b) (hq : min qt c.gap = mq) (_hf : f < 2 * c.wait) (h300 : b.length ≤ 300) (hb0 : b ≠ []) (hg : ¬ c.gap ≤ min (mq + 1) c.gap) (hw : ¬ 2 * c.wait ≤ f + 1) :
    Calls Tryz.prog 13 #[.pointer (some ⟨q, 0, none⟩)] w (RTickPost S q c a w (⟨min (mq + 1) c.gap, .waits (f + 1) t a b⟩, [], .none)) := by
  have hsm := cfg_small hc
  have c4 : w.cell? ⟨q, 4, none⟩ = some (.int .i64 2) := hr.cell rfl
  have c5 : w.cell? ⟨q, 5, none⟩ = some (.int .i64 qt) := hr.cell rfl
  have c6 : w.cell? ⟨q, 6, none⟩ = some (.int .i64 f) := hr.cell rfl
  have hqlt := hr.lt
  have f5 := hr.free 5
  have f6 := hr.free 6
  have q0 := hr.q0
  have q1 := hr.q1
  obtain ⟨Q, hQ⟩ : ∃ Q, min (qt + 1) 1000000 = Q := ⟨_, rfl⟩
  have hqq : min Q (c.gap : Int) = ((min (mq + 1) c.gap : Nat) : Int) := by omega
  have hQ0 : 0 ≤ Q := by omega
  have hQ1 : Q ≤ 1000000 := by omega
  have i1 : qt + 1 < 9223372036854775808 := by omega
  have i2 : (f : Int) + 1 < 9223372036854775808 := by omega
  have HR := qh hr
  have HQQ := qh hqq
  have hbn := hr.bn
  obtain ⟨dA, dn, dc⟩ := d
  have hbn : b.length = dn := hbn
  have HBN := qh hbn
  have c16 : w.cell? ⟨q, 16, none⟩ = some (.slice dA dn dc) := hr.cell rfl
  have hdn : ¬ (dn : Int) = 0 := fun e => hb0 (List.eq_nil_of_length_eq_zero (by omega))
  have hg' : decide ((c.gap : Int) ≤ Q) = false := by simp; omega
  have hw' : decide (2 * (c.wait : Int) ≤ (f : Int) + 1) = false := by simp; omega
  have i3 : 2 * (c.wait : Int) < 9223372036854775808 := by omega
  have HG := qh hg'
  have HW := qh hw'
  have HI3 := qh i3
  have hde : ((dn : Int) == 0) = false := by rw [beq_eq_false_iff_ne]; exact hdn
  clear hsm hc hr hq hqq hbn hb0 hw _hf hg hg' hw' i3 hdn
  go_enter Tryz.func13, Tryz.ntmps13
  go_wp2_with fail
  obtain ⟨w1, hw1⟩ : ∃ w1, (((w.setCell ⟨q, 5, none⟩ (.int .i64 Q)).setCell ⟨q, 6, none⟩ (.int .i64 ((f : Int) + 1))).alloc zeroAns).alloc zeroAns = w1 := ⟨_, rfl⟩
  obtain ⟨b1, r1, z0, z1, s1⟩ := tick_start2 HR.out w1 hw1
  have HR1 := qh r1
  have HZ0 := qh z0
  have HZ1 := qh z1
  unfold zeroAns at hw1
  rw [hw1]
  have m16 : w1.cell? ⟨q, 16, none⟩ = some (.slice dA dn dc) := (rm_asks r1).2.2.2.2.2.2.2.2
  obtain ⟨l0, l1, l2, l3, l4, l5, l6, l7⟩ := rm_loads r1
  clear hw1 r1 c4 c5 c6 c16 f5 f6 z0 z1
  go_quiet (fail)
  have b2 := b1.drewN nq
  have HR2 := qh (show (w1.drewN nq).heap[q]? = some (.cells (rmCells c 2 Q ((f : Int) + 1) t a h k (dA, dn, dc)) 61 (0, 0)) from HR1.out)
  have HZ02 := qh (show (w1.drewN nq).heap[w.heap.size]? = some zeroAns from HZ0.out)
  have HZ12 := qh (show (w1.drewN nq).heap[w.heap.size + 1]? = some zeroAns from HZ1.out)
  generalize w1.drewN nq = w2 at *
  clear l0 l1 l2 l3 l4 l5 l6 l7 m16
  obtain ⟨l0, l1, l2, l3, l4, l5, l6, l7⟩ := rm_loads HR2.out
  have m16 : w2.cell? ⟨q, 16, none⟩ = some (.slice dA dn dc) := (rm_asks HR2.out).2.2.2.2.2.2.2.2
  rw [HG.out]
  go_wp2_with fail
  have i3 := HI3.out
  go_quiet (fail)
  have b3 := b2.drewN nq
  have HR3 := qh (show (w2.drewN nq).heap[q]? = some (.cells (rmCells c 2 Q ((f : Int) + 1) t a h k (dA, dn, dc)) 61 (0, 0)) from HR2.out)
  have HZ03 := qh (show (w2.drewN nq).heap[w.heap.size]? = some zeroAns from HZ02.out)
  have HZ13 := qh (show (w2.drewN nq).heap[w.heap.size + 1]? = some zeroAns from HZ12.out)
  generalize w2.drewN nq = w3 at *
  clear l0 l1 l2 l3 l4 l5 l6 l7 m16
  obtain ⟨l0, l1, l2, l3, l4, l5, l6, l7⟩ := rm_loads HR3.out
  have m16 : w3.cell? ⟨q, 16, none⟩ = some (.slice dA dn dc) := (rm_asks HR3.out).2.2.2.2.2.2.2.2
  rw [HW.out]
  clear l0 l1 l2 l3 l4 l5 l6 l7 m16
  go_wp2_with fail
  obtain ⟨p0, p1, p2, p3⟩ := row_quad HZ13.out
  obtain ⟨x0, x1, x2, x3⟩ := row_quad_free HZ13.out
  obtain ⟨o0, o1, o2, o3⟩ := row_quad HZ03.out
  obtain ⟨y0, y1, y2, y3⟩ := row_quad_free HZ03.out
  go_region
  go_wp2_with fail
  obtain ⟨wz, hwz⟩ : ∃ wz, ((((w3.setCell ⟨w.heap.size, 0, none⟩ (.int .i64 0)).setCell ⟨w.heap.size, 1, none⟩ (.slice none 0 0)).setCell ⟨w.heap.size, 2, none⟩ (.slice none 0 0)).setCell ⟨w.heap.size, 3, none⟩ (.slice none 0 0)).drew = wz := ⟨_, rfl⟩
  obtain ⟨hb, hrow, ⟨s0, s1, s2, s3⟩, hT⟩ := tick_put (g := w.heap.size) b3 HR3.out HZ03.out (zq _) hqlt 1 _ _ _ _ wz hwz
  rw [hwz]
  clear hwz p0 p1 p2 p3 o0 o1 o2 o3 y0 y1 y2 y3 x0 x1 x2 x3
  refine bodyPost_ret_by (v := .tuple #[.slice none 0 0, .int .i64 0, .agg #[.int .i64 0, .slice none 0 0, .slice none 0 0, .slice none 0 0]]) (by simp [results, Tryz.f13, go_sem, s0, s1, s2, s3]) rfl ?_
  exact ⟨none, 0, 0, (none, 0, 0), (none, 0, 0), (none, 0, 0), rfl, rfl, zq _, Nat.zero_le _, Lies.nil _ _, AnsIn.zero _, ⟨2, Q, ((f + 1 : Nat) : Int), t, h, k, (dA, dn, dc), b, HR.out.next hb hrow hQ0 hQ1, HQQ.out, rfl, rfl, rfl, rfl, rfl⟩, hb⟩

end Go.Proofs.YtlgmjnjhdamknaaGreat
