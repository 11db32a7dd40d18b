
/- A part of the proof of the law MasterDoes. -/
import Derived.Test.YtlgmjnjhdamknaaGreatMem
import Derived.Test.YtlgmjnjhdamknaaGreatSma8
import Derived.Test.YtlgmjnjhdamknaaGreatRs2
import Derived.Test.YtlgmjnjhdamknaaGreatRtu
namespace Go.Proofs.YtlgmjnjhdamknaaGreat
open Go.RowKit

theorem tick_start2 {w : World} {q : Nat} {S : Nat → Prop} {c : Cfg} {st qt sp tr Q F : Int} {a : Ask} {h k d : Hd} {b : List UInt8} (hr : RMRaw w q S c st qt sp tr a h k d b) (W : World) (hW : (((w.setCell ⟨q, 5, none⟩ (.int .i64 Q)).setCell ⟨q, 6, none⟩ (.int .i64 F)).alloc zeroAns).alloc zeroAns = W) :
    But [q] w W ∧ W.heap[q]? = some (.cells (rmCells c st Q F tr a h k d) 61 (0, 0)) ∧ W.heap[w.heap.size]? = some zeroAns ∧ W.heap[w.heap.size + 1]? = some zeroAns ∧ W.heap.size = w.heap.size + 2 := by
  subst hW
  have hs : ((w.setCell ⟨q, 5, none⟩ (.int .i64 Q)).setCell ⟨q, 6, none⟩ (.int .i64 F)).heap.size = w.heap.size := by simp [World.setCell]
  have hb : But [q] w ((((w.setCell ⟨q, 5, none⟩ (.int .i64 Q)).setCell ⟨q, 6, none⟩ (.int .i64 F)).alloc zeroAns).alloc zeroAns) := (((But.one w q 5 _).setCell (p := ⟨q, 6, none⟩) (.inl (List.mem_singleton.2 rfl)) _).alloc _).alloc _
  have r1 := row_at ((w.setCell ⟨q, 5, none⟩ (.int .i64 Q)).setCell ⟨q, 6, none⟩ (.int .i64 F)) #[.int .i64 0, .slice none 0 0, .slice none 0 0, .slice none 0 0] 51 w.heap.size hs
  have hs1 : (((w.setCell ⟨q, 5, none⟩ (.int .i64 Q)).setCell ⟨q, 6, none⟩ (.int .i64 F)).alloc zeroAns).heap.size = w.heap.size + 1 := by simp [hs]
  have r2 := row_at (((w.setCell ⟨q, 5, none⟩ (.int .i64 Q)).setCell ⟨q, 6, none⟩ (.int .i64 F)).alloc zeroAns) #[.int .i64 0, .slice none 0 0, .slice none 0 0, .slice none 0 0] 51 (w.heap.size + 1) hs1
  have hq : ((w.setCell ⟨q, 5, none⟩ (.int .i64 Q)).setCell ⟨q, 6, none⟩ (.int .i64 F)).heap[q]? = some (.cells (rmCells c st Q F tr a h k d) 61 (0, 0)) := by rw [row_set (row_set hr.row _)]; rfl
  exact ⟨hb, row_later_set (row_later_set hq _) _, row_later_set r1 _, r2, by simp [hs]⟩
theorem rm_loads {w : World} {q : Nat} {c : Cfg} {st qt sp tr : Int} {a : Ask} {h k d : Hd} {t : TypeId} (x : w.heap[q]? = some (.cells (rmCells c st qt sp tr a h k d) t (0, 0))) :
    w.cell? ⟨q, 0, none⟩ = some (u8v c.unit) ∧ w.cell? ⟨q, 1, none⟩ = some (.int .i64 c.gap) ∧ w.cell? ⟨q, 2, none⟩ = some (.int .i64 c.wait) ∧ w.cell? ⟨q, 3, none⟩ = some (.int .i64 c.tries) ∧ w.cell? ⟨q, 4, none⟩ = some (.int .i64 st) ∧ w.cell? ⟨q, 5, none⟩ = some (.int .i64 qt) ∧ w.cell? ⟨q, 6, none⟩ = some (.int .i64 sp) ∧ w.cell? ⟨q, 7, none⟩ = some (.int .i64 tr) := by
  refine ⟨?_, ?_, ?_, ?_, ?_, ?_, ?_, ?_⟩ <;> rw [cell_of_row _ _ _ _ _ _ x] <;> rfl
theorem rm_asks {w : World} {q : Nat} {c : Cfg} {st qt sp tr : Int} {a : Ask} {h k d : Hd} {t : TypeId} (x : w.heap[q]? = some (.cells (rmCells c st qt sp tr a h k d) t (0, 0))) :
    w.cell? ⟨q, 8, none⟩ = some (.int .i64 a.code) ∧ w.cell? ⟨q, 9, none⟩ = some (.int .i64 a.addr) ∧ w.cell? ⟨q, 10, none⟩ = some (.int .i64 a.count) ∧ w.cell? ⟨q, 11, none⟩ = some (.int .i64 a.to) ∧ w.cell? ⟨q, 12, none⟩ = some (.slice h.1 h.2.1 h.2.2) ∧ w.cell? ⟨q, 13, none⟩ = some (.slice k.1 k.2.1 k.2.2) ∧ w.cell? ⟨q, 14, none⟩ = some (u16v a.and_) ∧ w.cell? ⟨q, 15, none⟩ = some (u16v a.or_) ∧ w.cell? ⟨q, 16, none⟩ = some (.slice d.1 d.2.1 d.2.2) := by
  refine ⟨?_, ?_, ?_, ?_, ?_, ?_, ?_, ?_, ?_⟩ <;> rw [cell_of_row _ _ _ _ _ _ x] <;> rfl
theorem row_free {w : World} {q : Nat} {cs : Array Value} {t : TypeId} (x : w.heap[q]? = some (.cells cs t (0, 0))) (i : Nat) : w.frozen? ⟨q, i, none⟩ = false := by
  simp [World.frozen?, x]

theorem tick_sent {w : World} {q : Nat} {c : Cfg} {st qt sp tr : Int} {a : Ask} {h k d : Hd} {T : TypeId} (hr : w.heap[q]? = some (.cells (rmCells c st qt sp tr a h k d) T (0, 0))) (W : World) (hW : (((((w.setCell ⟨q, 5, none⟩ (.int .i64 0)).setCell ⟨q, 6, none⟩ (.int .i64 0)).setCell ⟨q, 7, none⟩ (.int .i64 (tr + 1))).setCell ⟨q, 4, none⟩ (.int .i64 2)).setCell ⟨q, 16, none⟩ (.slice none 0 0)) = W) :
    But [q] w W ∧ W.heap[q]? = some (.cells (rmCells c 2 0 0 (tr + 1) a h k (none, 0, 0)) T (0, 0)) := by
  subst hW
  refine ⟨(((((But.one w q 5 _).setCell (p := ⟨q, 6, none⟩) (.inl (List.mem_singleton.2 rfl)) _).setCell (p := ⟨q, 7, none⟩) (.inl (List.mem_singleton.2 rfl)) _).setCell (p := ⟨q, 4, none⟩) (.inl (List.mem_singleton.2 rfl)) _).setCell (p := ⟨q, 16, none⟩) (.inl (List.mem_singleton.2 rfl)) _), ?_⟩
  rw [row_set (row_set (row_set (row_set (row_set hr _) _) _) _) _]
  unfold rmCells
  simp only [List.setIfInBounds_toArray, List.set_cons_zero, List.set_cons_succ]

set_option maxRecDepth 100000 in
set_option maxHeartbeats 2000000 in
theorem rtick8_wants (S : Nat → Prop) (q : Nat) (c : Cfg) (mq f t : Nat) (b : List UInt8) (a : Ask) (qt : Int) (h k d : Hd) (w : World)
    (hc : Ms.right c = true) (hr : RMRaw w q S c 1 qt f t a h k d b) (hq : min qt c.gap = mq) (hf : f < c.wait) (ht : t < c.tries) :
    Calls Tryz.prog 13 #[.pointer (some ⟨q, 0, none⟩)] w (RTickPost S q c a w (Ms.tick c ⟨mq, .wants f t a⟩)) := by
  have hsm := cfg_small hc
  have c4 : w.cell? ⟨q, 4, none⟩ = some (.int .i64 1) := hr.cell rfl
  have c5 : w.cell? ⟨q, 5, none⟩ = some (.int .i64 qt) := hr.cell rfl
  have c6 : w.cell? ⟨q, 6, none⟩ = some (.int .i64 f) := hr.cell rfl
  have hqlt := hr.lt
  have f5 := hr.free 5
  have f6 := hr.free 6
  have q0 := hr.q0
  have q1 := hr.q1
  obtain ⟨Q, hQ⟩ : ∃ Q, min (qt + 1) 1000000 = Q := ⟨_, rfl⟩
  have hqq : min Q (c.gap : Int) = ((min (mq + 1) c.gap : Nat) : Int) := by omega
  have hQ0 : 0 ≤ Q := by omega
  have hQ1 : Q ≤ 1000000 := by omega
  have i1 : qt + 1 < 9223372036854775808 := by omega
  have HR := qh hr
  have HQQ := qh hqq
  have i2 : (f : Int) + 1 < 9223372036854775808 := by omega
  have i3 : (t : Int) + 1 < 9223372036854775808 := by omega
  have HT := qh ht
  by_cases hy : Q < (c.gap : Int) ∧ (f : Int) + 1 < (c.wait : Int)
  · obtain ⟨hy1, hy2⟩ := hy
    have HM : Hid (Ms.tick c ⟨mq, .wants f t a⟩ = (⟨min (mq + 1) c.gap, .wants (f + 1) t a⟩, [], .none)) := qh (by
      show Ms.tickSt c (min (mq + 1) c.gap) _ = _
      unfold Ms.tickSt
      dsimp only
      rw [if_pos (by omega)])
    rw [HM.out]
    clear hsm hc hr hq hqq ht
    go_enter Tryz.func13, Tryz.ntmps13
    go_wp2_with fail
    obtain ⟨w1, hw1⟩ : ∃ w1, (((w.setCell ⟨q, 5, none⟩ (.int .i64 Q)).setCell ⟨q, 6, none⟩ (.int .i64 ((f : Int) + 1))).alloc zeroAns).alloc zeroAns = w1 := ⟨_, rfl⟩
    obtain ⟨b1, r1, z0, z1, s1⟩ := tick_start2 HR.out w1 hw1
    have HR1 := qh r1
    have HZ0 := qh z0
    have HZ1 := qh z1
    unfold zeroAns at hw1
    rw [hw1]
    obtain ⟨l0, l1, l2, l3, l4, l5, l6, l7⟩ := rm_loads r1
    clear hw1 r1 c4 c5 c6 f5 f6 z0 z1
    go_quiet (fail)
    have b2 := b1.drewN nq
    have HR2 := qh (show (w1.drewN nq).heap[q]? = some (.cells (rmCells c 1 Q ((f : Int) + 1) t a h k d) 61 (0, 0)) from HR1.out)
    have HZ02 := qh (show (w1.drewN nq).heap[w.heap.size]? = some zeroAns from HZ0.out)
    have HZ12 := qh (show (w1.drewN nq).heap[w.heap.size + 1]? = some zeroAns from HZ1.out)
    generalize w1.drewN nq = w2 at *
    clear l0 l1 l2 l3 l4 l5 l6 l7
    go_wp2_with fail
    obtain ⟨p0, p1, p2, p3⟩ := row_quad HZ12.out
    obtain ⟨x0, x1, x2, x3⟩ := row_quad_free HZ12.out
    obtain ⟨o0, o1, o2, o3⟩ := row_quad HZ02.out
    obtain ⟨y0, y1, y2, y3⟩ := row_quad_free HZ02.out
    go_region
    go_wp2_with fail
    obtain ⟨wz, hwz⟩ : ∃ wz, ((((w2.setCell ⟨w.heap.size, 0, none⟩ (.int .i64 0)).setCell ⟨w.heap.size, 1, none⟩ (.slice none 0 0)).setCell ⟨w.heap.size, 2, none⟩ (.slice none 0 0)).setCell ⟨w.heap.size, 3, none⟩ (.slice none 0 0)).drew = wz := ⟨_, rfl⟩
    obtain ⟨hb, hrow, ⟨s0, s1, s2, s3⟩, hT⟩ := tick_put (g := w.heap.size) b2 HR2.out HZ02.out (zq _) hqlt 1 _ _ _ _ wz hwz
    rw [hwz]
    clear hwz p0 p1 p2 p3 o0 o1 o2 o3 y0 y1 y2 y3 x0 x1 x2 x3
    refine bodyPost_ret_by (v := .tuple #[.slice none 0 0, .int .i64 0, .agg #[.int .i64 0, .slice none 0 0, .slice none 0 0, .slice none 0 0]]) (by simp [results, Tryz.f13, go_sem, s0, s1, s2, s3]) rfl ?_
    exact ⟨none, 0, 0, (none, 0, 0), (none, 0, 0), (none, 0, 0), rfl, rfl, zq _, Nat.zero_le _, Lies.nil _ _, AnsIn.zero _, ⟨1, Q, ((f + 1 : Nat) : Int), t, h, k, d, b, HR.out.next hb hrow hQ0 hQ1, HQQ.out, rfl, rfl, rfl, rfl⟩, hb⟩
  · have HM : Hid (Ms.tick c ⟨mq, .wants f t a⟩ = (⟨0, .waits 0 (t + 1) a []⟩, Ms.sent c a, .none)) := qh (by
      show Ms.tickSt c (min (mq + 1) c.gap) _ = _
      unfold Ms.tickSt
      dsimp only
      rw [if_neg (by omega)])
    rw [HM.out]
    clear hsm hc hr hq hqq ht
    have hy : ¬ Q < (c.gap : Int) ∨ (Q < (c.gap : Int) ∧ ¬ (f : Int) + 1 < (c.wait : Int)) := by omega
    rcases hy with hy1 | ⟨hy1, hy2⟩
    · skip
      go_enter Tryz.func13, Tryz.ntmps13
      go_wp2_with fail
      obtain ⟨w1, hw1⟩ : ∃ w1, (((w.setCell ⟨q, 5, none⟩ (.int .i64 Q)).setCell ⟨q, 6, none⟩ (.int .i64 ((f : Int) + 1))).alloc zeroAns).alloc zeroAns = w1 := ⟨_, rfl⟩
      obtain ⟨b1, r1, z0, z1, s1⟩ := tick_start2 HR.out w1 hw1
      have HR1 := qh r1
      have HZ0 := qh z0
      have HZ1 := qh z1
      unfold zeroAns at hw1
      rw [hw1]
      obtain ⟨l0, l1, l2, l3, l4, l5, l6, l7⟩ := rm_loads r1
      clear hw1 r1 c4 c5 c6 f5 f6 z0 z1
      have hd : decide (Q < (c.gap : Int)) = false := (by simp; omega)
      clear hy1
      go_quiet (fail)
      have b2 := b1.drewN nq
      have HR2 := qh (show (w1.drewN nq).heap[q]? = some (.cells (rmCells c 1 Q ((f : Int) + 1) t a h k d) 61 (0, 0)) from HR1.out)
      have HZ02 := qh (show (w1.drewN nq).heap[w.heap.size]? = some zeroAns from HZ0.out)
      have HZ12 := qh (show (w1.drewN nq).heap[w.heap.size + 1]? = some zeroAns from HZ1.out)
      generalize w1.drewN nq = w2 at *
      clear l0 l1 l2 l3 l4 l5 l6 l7
      obtain ⟨l0, l1, l2, l3, l4, l5, l6, l7⟩ := rm_loads HR2.out
      obtain ⟨m8, m9, m10, m11, m12, m13, m14, m15, m16⟩ := rm_asks HR2.out
      have HB6 := qh (rbytes6_any a h k w2 ((HR.out.next b2 HR2.out (by omega) hQ1).ins))
      rw [askV_eq] at HB6
      go_wp2_with fail
      refine HB6.out.mono ?_
      rintro e w3 ⟨A3, n3, k3, rfl, hn3, hown3, hb3⟩
      have b3 := b2.then_below (hb3.mono (zq _))
      have HR3 := qh (row_later HR2.out hb3)
      have HZ03 := qh (row_later HZ02.out hb3)
      have HZ13 := qh (row_later HZ12.out hb3)
      have ho3 := own_at hown3
      have hm3 := Ak.bytes_most a
      have HB3 := qh (rbytes3_any c.unit A3 n3 k3 (Ak.bytes a) hn3 (by omega) w3 ho3.2.2.2)
      clear l0 l1 l2 l3 l4 l5 l6 l7 m8 m9 m10 m11 m12 m13 m14 m15 m16 HB6 ho3 hown3
      obtain ⟨l0, -, -, -, -, -, -, -⟩ := rm_loads HR3.out
      go_wp2_with fail
      refine HB3.out.mono ?_
      rintro e w4 ⟨A4, n4, k4, rfl, hn4, hown4, hb4⟩
      have b4 := b3.then_below hb4
      have HR4 := qh (row_later HR3.out hb4)
      have HZ04 := qh (row_later HZ03.out hb4)
      have HZ14 := qh (row_later HZ13.out hb4)
      have HS4 := qh (own_at hown4)
      have HN4 := qh (fun g hg => (hown4.lt g hg).1)
      clear l0 HB3 hm3 hown4
      obtain ⟨l0, l1, l2, l3, l4, l5, l6, l7⟩ := rm_loads HR4.out
      obtain ⟨-, -, -, -, -, -, -, -, m16⟩ := rm_asks HR4.out
      have f4 := row_free HR4.out 4
      have f5 := row_free HR4.out 5
      have f6 := row_free HR4.out 6
      have f7 := row_free HR4.out 7
      have f16 := row_free HR4.out 16
      have hlt4 : q < w4.heap.size := row_lt HR4.out
      go_wp2_with fail
      obtain ⟨w5, hw5⟩ : ∃ w5, (((((w4.setCell ⟨q, 5, none⟩ (.int .i64 0)).setCell ⟨q, 6, none⟩ (.int .i64 0)).setCell ⟨q, 7, none⟩ (.int .i64 ((t : Int) + 1))).setCell ⟨q, 4, none⟩ (.int .i64 2)).setCell ⟨q, 16, none⟩ (.slice none 0 0)) = w5 := ⟨_, rfl⟩
      obtain ⟨b45, r5⟩ := tick_sent HR4.out w5 hw5
      have b5 := b4.trans b45
      have HR5 := qh r5
      have HZ05 := qh (row_but HZ04.out b45 (by rw [List.mem_singleton]; omega))
      have HZ15 := qh (row_but HZ14.out b45 (by rw [List.mem_singleton]; omega))
      rw [hw5]
      clear hw5 r5 l0 l1 l2 l3 l4 l5 l6 l7 m16 f4 f5 f6 f7 f16
      obtain ⟨p0, p1, p2, p3⟩ := row_quad HZ15.out
      obtain ⟨x0, x1, x2, x3⟩ := row_quad_free HZ15.out
      obtain ⟨o0, o1, o2, o3⟩ := row_quad HZ05.out
      obtain ⟨y0, y1, y2, y3⟩ := row_quad_free HZ05.out
      go_region
      go_wp2_with fail
      obtain ⟨wz, hwz⟩ : ∃ wz, ((((w5.setCell ⟨w.heap.size, 0, none⟩ (.int .i64 0)).setCell ⟨w.heap.size, 1, none⟩ (.slice none 0 0)).setCell ⟨w.heap.size, 2, none⟩ (.slice none 0 0)).setCell ⟨w.heap.size, 3, none⟩ (.slice none 0 0)).drew = wz := ⟨_, rfl⟩
      obtain ⟨hb, hrow, ⟨s0, s1, s2, s3⟩, hT⟩ := tick_put (g := w.heap.size) b5 HR5.out HZ05.out (zq _) hqlt 1 _ _ _ _ wz hwz
      rw [hwz]
      clear hwz p0 p1 p2 p3 o0 o1 o2 o3 y0 y1 y2 y3 x0 x1 x2 x3
      refine bodyPost_ret_by (v := .tuple #[.slice A4 n4 k4, .int .i64 0, .agg #[.int .i64 0, .slice none 0 0, .slice none 0 0, .slice none 0 0]]) (by simp [results, Tryz.f13, go_sem, s0, s1, s2, s3]) rfl ?_
      exact ⟨A4, n4, k4, (none, 0, 0), (none, 0, 0), (none, 0, 0), rfl, hn4, HS4.out.1, HS4.out.2.1, (HS4.out.2.2.2.but b45 (fun g o s e _ hm => (by
          subst e
          have h1 := HN4.out g rfl
          have h2 := List.mem_singleton.1 hm
          have h3 : q < w3.heap.size := row_lt HR3.out
          omega))).but (hT [w.heap.size] (List.mem_singleton.2 rfl)) (fun g o s e _ hm => (by
          subst e
          have h1 := HN4.out g rfl
          have h2 := List.mem_singleton.1 hm
          have h3 : w.heap.size < w3.heap.size := row_lt HZ03.out
          omega)), AnsIn.zero _, ⟨2, 0, 0, ((t + 1 : Nat) : Int), h, k, (none, 0, 0), [], HR.out.fresh hb hrow (Int.le_refl 0) (by omega), (by show min (0 : Int) _ = ((0 : Nat) : Int); omega), rfl, rfl, rfl, rfl, rfl⟩, hb⟩
    · skip
      go_enter Tryz.func13, Tryz.ntmps13
      go_wp2_with fail
      obtain ⟨w1, hw1⟩ : ∃ w1, (((w.setCell ⟨q, 5, none⟩ (.int .i64 Q)).setCell ⟨q, 6, none⟩ (.int .i64 ((f : Int) + 1))).alloc zeroAns).alloc zeroAns = w1 := ⟨_, rfl⟩
      obtain ⟨b1, r1, z0, z1, s1⟩ := tick_start2 HR.out w1 hw1
      have HR1 := qh r1
      have HZ0 := qh z0
      have HZ1 := qh z1
      unfold zeroAns at hw1
      rw [hw1]
      obtain ⟨l0, l1, l2, l3, l4, l5, l6, l7⟩ := rm_loads r1
      clear hw1 r1 c4 c5 c6 f5 f6 z0 z1
      have hd : decide ((f : Int) + 1 < (c.wait : Int)) = false := (by simp; omega)
      clear hy2
      go_quiet (fail)
      have b2 := b1.drewN nq
      have HR2 := qh (show (w1.drewN nq).heap[q]? = some (.cells (rmCells c 1 Q ((f : Int) + 1) t a h k d) 61 (0, 0)) from HR1.out)
      have HZ02 := qh (show (w1.drewN nq).heap[w.heap.size]? = some zeroAns from HZ0.out)
      have HZ12 := qh (show (w1.drewN nq).heap[w.heap.size + 1]? = some zeroAns from HZ1.out)
      generalize w1.drewN nq = w2 at *
      clear l0 l1 l2 l3 l4 l5 l6 l7
      obtain ⟨l0, l1, l2, l3, l4, l5, l6, l7⟩ := rm_loads HR2.out
      obtain ⟨m8, m9, m10, m11, m12, m13, m14, m15, m16⟩ := rm_asks HR2.out
      have HB6 := qh (rbytes6_any a h k w2 ((HR.out.next b2 HR2.out (by omega) hQ1).ins))
      rw [askV_eq] at HB6
      go_wp2_with fail
      refine HB6.out.mono ?_
      rintro e w3 ⟨A3, n3, k3, rfl, hn3, hown3, hb3⟩
      have b3 := b2.then_below (hb3.mono (zq _))
      have HR3 := qh (row_later HR2.out hb3)
      have HZ03 := qh (row_later HZ02.out hb3)
      have HZ13 := qh (row_later HZ12.out hb3)
      have ho3 := own_at hown3
      have hm3 := Ak.bytes_most a
      have HB3 := qh (rbytes3_any c.unit A3 n3 k3 (Ak.bytes a) hn3 (by omega) w3 ho3.2.2.2)
      clear l0 l1 l2 l3 l4 l5 l6 l7 m8 m9 m10 m11 m12 m13 m14 m15 m16 HB6 ho3 hown3
      obtain ⟨l0, -, -, -, -, -, -, -⟩ := rm_loads HR3.out
      go_wp2_with fail
      refine HB3.out.mono ?_
      rintro e w4 ⟨A4, n4, k4, rfl, hn4, hown4, hb4⟩
      have b4 := b3.then_below hb4
      have HR4 := qh (row_later HR3.out hb4)
      have HZ04 := qh (row_later HZ03.out hb4)
      have HZ14 := qh (row_later HZ13.out hb4)
      have HS4 := qh (own_at hown4)
      have HN4 := qh (fun g hg => (hown4.lt g hg).1)
      clear l0 HB3 hm3 hown4
      obtain ⟨l0, l1, l2, l3, l4, l5, l6, l7⟩ := rm_loads HR4.out
      obtain ⟨-, -, -, -, -, -, -, -, m16⟩ := rm_asks HR4.out
      have f4 := row_free HR4.out 4
      have f5 := row_free HR4.out 5
      have f6 := row_free HR4.out 6
      have f7 := row_free HR4.out 7
      have f16 := row_free HR4.out 16
      have hlt4 : q < w4.heap.size := row_lt HR4.out
      go_wp2_with fail
      obtain ⟨w5, hw5⟩ : ∃ w5, (((((w4.setCell ⟨q, 5, none⟩ (.int .i64 0)).setCell ⟨q, 6, none⟩ (.int .i64 0)).setCell ⟨q, 7, none⟩ (.int .i64 ((t : Int) + 1))).setCell ⟨q, 4, none⟩ (.int .i64 2)).setCell ⟨q, 16, none⟩ (.slice none 0 0)) = w5 := ⟨_, rfl⟩
      obtain ⟨b45, r5⟩ := tick_sent HR4.out w5 hw5
      have b5 := b4.trans b45
      have HR5 := qh r5
      have HZ05 := qh (row_but HZ04.out b45 (by rw [List.mem_singleton]; omega))
      have HZ15 := qh (row_but HZ14.out b45 (by rw [List.mem_singleton]; omega))
      rw [hw5]
      clear hw5 r5 l0 l1 l2 l3 l4 l5 l6 l7 m16 f4 f5 f6 f7 f16
      obtain ⟨p0, p1, p2, p3⟩ := row_quad HZ15.out
      obtain ⟨x0, x1, x2, x3⟩ := row_quad_free HZ15.out
      obtain ⟨o0, o1, o2, o3⟩ := row_quad HZ05.out
      obtain ⟨y0, y1, y2, y3⟩ := row_quad_free HZ05.out
      go_region
      go_wp2_with fail
      obtain ⟨wz, hwz⟩ : ∃ wz, ((((w5.setCell ⟨w.heap.size, 0, none⟩ (.int .i64 0)).setCell ⟨w.heap.size, 1, none⟩ (.slice none 0 0)).setCell ⟨w.heap.size, 2, none⟩ (.slice none 0 0)).setCell ⟨w.heap.size, 3, none⟩ (.slice none 0 0)).drew = wz := ⟨_, rfl⟩
      obtain ⟨hb, hrow, ⟨s0, s1, s2, s3⟩, hT⟩ := tick_put (g := w.heap.size) b5 HR5.out HZ05.out (zq _) hqlt 1 _ _ _ _ wz hwz
      rw [hwz]
      clear hwz p0 p1 p2 p3 o0 o1 o2 o3 y0 y1 y2 y3 x0 x1 x2 x3
      refine bodyPost_ret_by (v := .tuple #[.slice A4 n4 k4, .int .i64 0, .agg #[.int .i64 0, .slice none 0 0, .slice none 0 0, .slice none 0 0]]) (by simp [results, Tryz.f13, go_sem, s0, s1, s2, s3]) rfl ?_
      exact ⟨A4, n4, k4, (none, 0, 0), (none, 0, 0), (none, 0, 0), rfl, hn4, HS4.out.1, HS4.out.2.1, (HS4.out.2.2.2.but b45 (fun g o s e _ hm => (by
          subst e
          have h1 := HN4.out g rfl
          have h2 := List.mem_singleton.1 hm
          have h3 : q < w3.heap.size := row_lt HR3.out
          omega))).but (hT [w.heap.size] (List.mem_singleton.2 rfl)) (fun g o s e _ hm => (by
          subst e
          have h1 := HN4.out g rfl
          have h2 := List.mem_singleton.1 hm
          have h3 : w.heap.size < w3.heap.size := row_lt HZ03.out
          omega)), AnsIn.zero _, ⟨2, 0, 0, ((t + 1 : Nat) : Int), h, k, (none, 0, 0), [], HR.out.fresh hb hrow (Int.le_refl 0) (by omega), (by show min (0 : Int) _ = ((0 : Nat) : Int); omega), rfl, rfl, rfl, rfl, rfl⟩, hb⟩

end Go.Proofs.YtlgmjnjhdamknaaGreat
