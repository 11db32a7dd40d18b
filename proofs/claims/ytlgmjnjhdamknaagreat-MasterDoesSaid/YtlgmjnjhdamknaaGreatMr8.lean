
/- A part of the proof of the law MasterDoes. -/
import Derived.Test.YtlgmjnjhdamknaaGreatMem
import Derived.Test.YtlgmjnjhdamknaaGreatLand
import Derived.Test.YtlgmjnjhdamknaaGreatBr7
import Derived.Deep.RegionHeld3
import Derived.Test.YtlgmjnjhdamknaaGreatRc7
namespace Go.Proofs.YtlgmjnjhdamknaaGreat
open Go.RowKit

abbrev zeroAnsL : Obj := .cells #[.int .i64 0, .slice none 0 0, .slice none 0 0, .slice none 0 0] 46
def LReadPost (w : World) (r : Option Ans) (e : Ending) (w' : World) : Prop :=
  ∃ (xe : Int) (xh xk xt : Hd) (x : Ans), e = .returned (.tuple #[.agg #[.int .i64 xe, .slice xh.1 xh.2.1 xh.2.2, .slice xk.1 xk.2.1 xk.2.2, .slice xt.1 xt.2.1 xt.2.2], .bool r.isSome]) ∧ x.exc = xe ∧ AnsIn w' x xh xk xt ∧ (∀ y, r = some y → x = y) ∧ Below w.heap.size w w'
theorem four_put {w w1 : World} {g : Nat} {c0 c1 c2 c3 : Value} {t : TypeId} (hb : Below w.heap.size w w1) (h0 : w1.heap[g]? = some (.cells #[c0, c1, c2, c3] t (0, 0))) (hg : w.heap.size ≤ g) (v0 v1 v2 v3 : Value) (W : World) (hW : ((((w1.setCell ⟨g, 0, none⟩ v0).setCell ⟨g, 1, none⟩ v1).setCell ⟨g, 2, none⟩ v2).setCell ⟨g, 3, none⟩ v3) = W) :
    Below w.heap.size w W ∧ (W.cell? ⟨g, 0, none⟩ = some v0 ∧ W.cell? ⟨g, 1, none⟩ = some v1 ∧ W.cell? ⟨g, 2, none⟩ = some v2 ∧ W.cell? ⟨g, 3, none⟩ = some v3) := by
  subst hW
  refine ⟨(((hb.setCell (p := ⟨g, 0, none⟩) hg v0).setCell (p := ⟨g, 1, none⟩) hg v1).setCell (p := ⟨g, 2, none⟩) hg v2).setCell (p := ⟨g, 3, none⟩) hg v3, ?_⟩
  have := stored_four8 h0 v0 v1 v2 v3
  exact row_quad this

set_option maxRecDepth 100000 in
set_option maxHeartbeats 4000000 in
theorem read8_torn (q D : Nat) (S : Nat → Prop) (c : Cfg) (st tr tk sl : Int) (a : Ask) (h k d : Hd) (b : List UInt8) (w : World) (x : LMRaw w q D S c st tr tk sl a h k d b) (hcd : Rtu.codeB b ≠ 0) :
    Calls Tryz.prog 143 #[.pointer (some ⟨q, 0, none⟩)] w (LReadPost w (Ms.heard c a b)) := by
  have hz := row_at w #[.int .i64 0, .slice none 0 0, .slice none 0 0, .slice none 0 0] 46 w.heap.size rfl
  have hb0 : Below w.heap.size w (w.alloc zeroAnsL) := (Below.refl _ _).alloc (zq _) _
  have hqlt := row_lt x.row
  obtain ⟨hc1, hc2, hbn, hbl⟩ := x.came
  have hdm := x.dm
  have HR := qh (row_later x.row hb0)
  have HZ := qh hz
  have HB := qh hb0
  have HX := qh (x.ins.below hb0)
  obtain ⟨dA, dn, dc⟩ := d
  have hdm : dn ≤ 300 := hdm
  have HRD := qh (read3_any dA dn dc b hbn hc1 (by omega) _ (hbl.below hb0 (zq _)))
  obtain ⟨l0, l1, l2, l3, l4, l5, l6, l7, l8⟩ := lm_loads x.row
  have HNO : Hid (Ms.heard c a b = none) := qh (by unfold Ms.heard; rw [if_neg (fun hh => hcd hh.1)])
  have hcd' : (((Rtu.codeB b : Nat) : Int) != 0) = true := by rw [bne_iff_ne]; omega
  clear hcd
  clear x hz hb0 hbl hc1 hc2 hbn hdm
  go_enter Tryz.func143, Tryz.ntmps143
  go_wp2_with fail
  refine HRD.out.mono ?_
  rintro e w3 ⟨A3, n3, k3, rfl, hn3, hc3, hm3, hl3, hb3⟩
  have b3 := HB.out.trans (hb3.mono HB.out.size)
  have HR3 := qh (row_later HR.out hb3)
  have HZ3 := qh (row_later HZ.out hb3)
  have HX3 := qh (HX.out.below hb3)
  clear l0 l1 l2 l3 l4 l5 l6 l7 l8 HRD
  go_wp2_with fail
  have b4 := b3.alloc (o := (.cells #[u8v (Rtu.unit b), .slice A3 n3 k3] 69)) b3.size
  have hbF : Below w3.heap.size w3 (w3.alloc (.cells #[u8v (Rtu.unit b), .slice A3 n3 k3] 69)) := (Below.refl _ _).alloc (zq _) _
  have HR4 := qh (row_later HR3.out hbF)
  have HZ4 := qh (row_later HZ3.out hbF)
  have HX4 := qh (HX3.out.below hbF)
  have HF4 := qh (row_at w3 #[u8v (Rtu.unit b), .slice A3 n3 k3] 69 w3.heap.size rfl)
  have HL4 := qh (hl3.below hbF (zq _))
  have hz4 : w3.heap.size < (w3.alloc (.cells #[u8v (Rtu.unit b), .slice A3 n3 k3] 69)).heap.size := by simp
  have hq4 : q < w3.heap.size := row_lt HR3.out
  have hg4 : w.heap.size < w3.heap.size := row_lt HZ3.out
  clear hbF hb3 hl3
  generalize w3.alloc (.cells #[u8v (Rtu.unit b), .slice A3 n3 k3] 69) = w4 at *
  obtain ⟨l0, -⟩ := lm_loads HR4.out
  obtain ⟨e0, e1⟩ := row_two8 HF4.out
  go_quiet (fail)
  have b5 := drewN_below b4 nq
  have hbD : Below w4.heap.size w4 (w4.drewN nq) := drewN_below (Below.refl _ _) nq
  have HR5 := qh (row_later HR4.out hbD)
  have HZ5 := qh (row_later HZ4.out hbD)
  have HX5 := qh (HX4.out.below hbD)
  have HF5 := qh (row_later HF4.out hbD)
  have HL5 := qh (HL4.out.below hbD (zq _))
  clear hbD
  generalize w4.drewN nq = w5 at *
  clear l0 e0 e1
  obtain ⟨o0, o1, o2, o3⟩ := row_quad HZ5.out
  obtain ⟨y0, y1, y2, y3⟩ := row_quad_free HZ5.out
  have hltz := row_lt HZ5.out
  go_wp2_with fail
  obtain ⟨wz, hwz⟩ : ∃ wz, ((((w5.setCell ⟨w.heap.size, 0, none⟩ (.int .i64 0)).setCell ⟨w.heap.size, 1, none⟩ (.slice none 0 0)).setCell ⟨w.heap.size, 2, none⟩ (.slice none 0 0)).setCell ⟨w.heap.size, 3, none⟩ (.slice none 0 0)) = wz := ⟨_, rfl⟩
  obtain ⟨bz, s0, s1, s2, s3⟩ := four_put b5 HZ5.out (zq _) _ _ _ _ wz hwz
  rw [hwz]
  clear hwz o0 o1 o2 o3 y0 y1 y2 y3
  refine bodyPost_ret_by (v := .tuple #[.agg #[.int .i64 0, .slice none 0 0, .slice none 0 0, .slice none 0 0], .bool false]) (by simp [results, Tryz.f143, go_sem, s0, s1, s2, s3]) rfl ?_
  have HN := HNO.out
  rw [HN]
  exact ⟨0, (none, 0, 0), (none, 0, 0), (none, 0, 0), An.zero, rfl, rfl, AnsIn.zero _, fun y hy => (by cases hy), bz⟩

set_option maxRecDepth 100000 in
set_option maxHeartbeats 4000000 in
theorem read8_other (q D : Nat) (S : Nat → Prop) (c : Cfg) (st tr tk sl : Int) (a : Ask) (h k d : Hd) (b : List UInt8) (w : World) (x : LMRaw w q D S c st tr tk sl a h k d b) (hcd : Rtu.codeB b = 0) (hun : Rtu.unit b ≠ c.unit) :
    Calls Tryz.prog 143 #[.pointer (some ⟨q, 0, none⟩)] w (LReadPost w (Ms.heard c a b)) := by
  have hz := row_at w #[.int .i64 0, .slice none 0 0, .slice none 0 0, .slice none 0 0] 46 w.heap.size rfl
  have hb0 : Below w.heap.size w (w.alloc zeroAnsL) := (Below.refl _ _).alloc (zq _) _
  have hqlt := row_lt x.row
  obtain ⟨hc1, hc2, hbn, hbl⟩ := x.came
  have hdm := x.dm
  have HR := qh (row_later x.row hb0)
  have HZ := qh hz
  have HB := qh hb0
  have HX := qh (x.ins.below hb0)
  obtain ⟨dA, dn, dc⟩ := d
  have hdm : dn ≤ 300 := hdm
  have HRD := qh (read3_any dA dn dc b hbn hc1 (by omega) _ (hbl.below hb0 (zq _)))
  obtain ⟨l0, l1, l2, l3, l4, l5, l6, l7, l8⟩ := lm_loads x.row
  have HNO : Hid (Ms.heard c a b = none) := qh (by unfold Ms.heard; rw [if_neg (fun hh => hun hh.2.1)])
  have hcd' : (((Rtu.codeB b : Nat) : Int) != 0) = false := by rw [bne_eq_false_iff_eq]; omega
  have hun' : (((Rtu.unit b).toNat : Int) != (c.unit.toNat : Int)) = true := by
    rw [bne_iff_ne]
    intro e
    exact hun (UInt8.toNat_inj.1 (by exact_mod_cast e))
  clear hcd hun
  clear x hz hb0 hbl hc1 hc2 hbn hdm
  go_enter Tryz.func143, Tryz.ntmps143
  go_wp2_with fail
  refine HRD.out.mono ?_
  rintro e w3 ⟨A3, n3, k3, rfl, hn3, hc3, hm3, hl3, hb3⟩
  have b3 := HB.out.trans (hb3.mono HB.out.size)
  have HR3 := qh (row_later HR.out hb3)
  have HZ3 := qh (row_later HZ.out hb3)
  have HX3 := qh (HX.out.below hb3)
  clear l0 l1 l2 l3 l4 l5 l6 l7 l8 HRD
  go_wp2_with fail
  have b4 := b3.alloc (o := (.cells #[u8v (Rtu.unit b), .slice A3 n3 k3] 69)) b3.size
  have hbF : Below w3.heap.size w3 (w3.alloc (.cells #[u8v (Rtu.unit b), .slice A3 n3 k3] 69)) := (Below.refl _ _).alloc (zq _) _
  have HR4 := qh (row_later HR3.out hbF)
  have HZ4 := qh (row_later HZ3.out hbF)
  have HX4 := qh (HX3.out.below hbF)
  have HF4 := qh (row_at w3 #[u8v (Rtu.unit b), .slice A3 n3 k3] 69 w3.heap.size rfl)
  have HL4 := qh (hl3.below hbF (zq _))
  have hz4 : w3.heap.size < (w3.alloc (.cells #[u8v (Rtu.unit b), .slice A3 n3 k3] 69)).heap.size := by simp
  have hq4 : q < w3.heap.size := row_lt HR3.out
  have hg4 : w.heap.size < w3.heap.size := row_lt HZ3.out
  clear hbF hb3 hl3
  generalize w3.alloc (.cells #[u8v (Rtu.unit b), .slice A3 n3 k3] 69) = w4 at *
  obtain ⟨l0, -⟩ := lm_loads HR4.out
  obtain ⟨e0, e1⟩ := row_two8 HF4.out
  go_quiet (fail)
  have b5 := drewN_below b4 nq
  have hbD : Below w4.heap.size w4 (w4.drewN nq) := drewN_below (Below.refl _ _) nq
  have HR5 := qh (row_later HR4.out hbD)
  have HZ5 := qh (row_later HZ4.out hbD)
  have HX5 := qh (HX4.out.below hbD)
  have HF5 := qh (row_later HF4.out hbD)
  have HL5 := qh (HL4.out.below hbD (zq _))
  clear hbD
  generalize w4.drewN nq = w5 at *
  clear l0 e0 e1
  obtain ⟨o0, o1, o2, o3⟩ := row_quad HZ5.out
  obtain ⟨y0, y1, y2, y3⟩ := row_quad_free HZ5.out
  have hltz := row_lt HZ5.out
  go_wp2_with fail
  obtain ⟨wz, hwz⟩ : ∃ wz, ((((w5.setCell ⟨w.heap.size, 0, none⟩ (.int .i64 0)).setCell ⟨w.heap.size, 1, none⟩ (.slice none 0 0)).setCell ⟨w.heap.size, 2, none⟩ (.slice none 0 0)).setCell ⟨w.heap.size, 3, none⟩ (.slice none 0 0)) = wz := ⟨_, rfl⟩
  obtain ⟨bz, s0, s1, s2, s3⟩ := four_put b5 HZ5.out (zq _) _ _ _ _ wz hwz
  rw [hwz]
  clear hwz o0 o1 o2 o3 y0 y1 y2 y3
  refine bodyPost_ret_by (v := .tuple #[.agg #[.int .i64 0, .slice none 0 0, .slice none 0 0, .slice none 0 0], .bool false]) (by simp [results, Tryz.f143, go_sem, s0, s1, s2, s3]) rfl ?_
  have HN := HNO.out
  rw [HN]
  exact ⟨0, (none, 0, 0), (none, 0, 0), (none, 0, 0), An.zero, rfl, rfl, AnsIn.zero _, fun y hy => (by cases hy), bz⟩

set_option maxRecDepth 100000 in
set_option maxHeartbeats 4000000 in
theorem read8_asked (q D : Nat) (S : Nat → Prop) (c : Cfg) (st tr tk sl : Int) (a : Ask) (h k d : Hd) (b : List UInt8) (w : World) (x : LMRaw w q D S c st tr tk sl a h k d b) (hcd : Rtu.codeB b = 0) (hun : Rtu.unit b = c.unit) :
    Calls Tryz.prog 143 #[.pointer (some ⟨q, 0, none⟩)] w (LReadPost w (Ms.heard c a b)) := by
  have hz := row_at w #[.int .i64 0, .slice none 0 0, .slice none 0 0, .slice none 0 0] 46 w.heap.size rfl
  have hb0 : Below w.heap.size w (w.alloc zeroAnsL) := (Below.refl _ _).alloc (zq _) _
  have hqlt := row_lt x.row
  obtain ⟨hc1, hc2, hbn, hbl⟩ := x.came
  have hdm := x.dm
  have HR := qh (row_later x.row hb0)
  have HZ := qh hz
  have HB := qh hb0
  have HX := qh (x.ins.below hb0)
  obtain ⟨dA, dn, dc⟩ := d
  have hdm : dn ≤ 300 := hdm
  have HRD := qh (read3_any dA dn dc b hbn hc1 (by omega) _ (hbl.below hb0 (zq _)))
  obtain ⟨l0, l1, l2, l3, l4, l5, l6, l7, l8⟩ := lm_loads x.row
  have hcd' : (((Rtu.codeB b : Nat) : Int) != 0) = false := by rw [bne_eq_false_iff_eq]; omega
  have hun' : (((Rtu.unit b).toNat : Int) != (c.unit.toNat : Int)) = false := by rw [hun]; simp
  have HH : Hid (Ms.heard c a b = if (An.read a (Rtu.pdu b)).2 = 0 then some (An.read a (Rtu.pdu b)).1 else none) := qh (by
    unfold Ms.heard
    by_cases h0 : (An.read a (Rtu.pdu b)).2 = 0
    · rw [if_pos ⟨hcd, hun, h0⟩, if_pos h0]
    · rw [if_neg (fun hh => h0 hh.2.2), if_neg h0])
  clear hcd hun
  clear x hz hb0 hbl hc1 hc2 hbn hdm
  go_enter Tryz.func143, Tryz.ntmps143
  go_wp2_with fail
  refine HRD.out.mono ?_
  rintro e w3 ⟨A3, n3, k3, rfl, hn3, hc3, hm3, hl3, hb3⟩
  have b3 := HB.out.trans (hb3.mono HB.out.size)
  have HR3 := qh (row_later HR.out hb3)
  have HZ3 := qh (row_later HZ.out hb3)
  have HX3 := qh (HX.out.below hb3)
  clear l0 l1 l2 l3 l4 l5 l6 l7 l8 HRD
  go_wp2_with fail
  have b4 := b3.alloc (o := (.cells #[u8v (Rtu.unit b), .slice A3 n3 k3] 69)) b3.size
  have hbF : Below w3.heap.size w3 (w3.alloc (.cells #[u8v (Rtu.unit b), .slice A3 n3 k3] 69)) := (Below.refl _ _).alloc (zq _) _
  have HR4 := qh (row_later HR3.out hbF)
  have HZ4 := qh (row_later HZ3.out hbF)
  have HX4 := qh (HX3.out.below hbF)
  have HF4 := qh (row_at w3 #[u8v (Rtu.unit b), .slice A3 n3 k3] 69 w3.heap.size rfl)
  have HL4 := qh (hl3.below hbF (zq _))
  have hz4 : w3.heap.size < (w3.alloc (.cells #[u8v (Rtu.unit b), .slice A3 n3 k3] 69)).heap.size := by simp
  have hq4 : q < w3.heap.size := row_lt HR3.out
  have hg4 : w.heap.size < w3.heap.size := row_lt HZ3.out
  clear hbF hb3 hl3
  generalize w3.alloc (.cells #[u8v (Rtu.unit b), .slice A3 n3 k3] 69) = w4 at *
  obtain ⟨l0, -⟩ := lm_loads HR4.out
  obtain ⟨e0, e1⟩ := row_two8 HF4.out
  go_quiet (fail)
  have b5 := drewN_below b4 nq
  have hbD : Below w4.heap.size w4 (w4.drewN nq) := drewN_below (Below.refl _ _) nq
  have HR5 := qh (row_later HR4.out hbD)
  have HZ5 := qh (row_later HZ4.out hbD)
  have HX5 := qh (HX4.out.below hbD)
  have HF5 := qh (row_later HF4.out hbD)
  have HL5 := qh (HL4.out.below hbD (zq _))
  clear hbD
  generalize w4.drewN nq = w5 at *
  clear l0 e0 e1
  go_wp2_with fail
  have HS : Hid (∀ X, Below w5.heap.size w5 X → (X.cell? ⟨q, 5, none⟩ = some (.int .i64 a.code) ∧ X.cell? ⟨q, 6, none⟩ = some (.int .i64 a.addr) ∧ X.cell? ⟨q, 7, none⟩ = some (.int .i64 a.count) ∧ X.cell? ⟨q, 8, none⟩ = some (.int .i64 a.to) ∧ X.cell? ⟨q, 9, none⟩ = some (.slice h.1 h.2.1 h.2.2) ∧ X.cell? ⟨q, 10, none⟩ = some (.slice k.1 k.2.1 k.2.2) ∧ X.cell? ⟨q, 11, none⟩ = some (u16v a.and_) ∧ X.cell? ⟨q, 12, none⟩ = some (u16v a.or_) ∧ X.cell? ⟨w3.heap.size, 1, none⟩ = some (.slice A3 n3 k3) ∧ Below w5.heap.size w5 X)) := qh (fun X hX => by
      obtain ⟨m5, m6, m7, m8, m9, m10, m11, m12⟩ := lm_asks (row_later HR5.out hX)
      exact ⟨m5, m6, m7, m8, m9, m10, m11, m12, (row_two8 (row_later HF5.out hX)).2, hX⟩)
  have HRD7 : Hid (∀ X, Below w5.heap.size w5 X → Calls Tryz.prog 169 #[.agg #[.int .i64 a.code, .int .i64 a.addr, .int .i64 a.count, .int .i64 a.to, .slice h.1 h.2.1 h.2.2, .slice k.1 k.2.1 k.2.2, u16v a.and_, u16v a.or_], .slice A3 n3 k3] X (ARP8 X (An.read a (Rtu.pdu b)))) := qh (fun X hX => (read7_any a h k A3 n3 k3 (Rtu.pdu b) hn3 hc3 hm3 X (HX5.out.below hX) (HL5.out.below hX (zq _))).mono (fun _ _ h => h.named))
  have HD1 : Hid (Below w5.heap.size w5 w5.drew) := qh (drewN_below (Below.refl _ w5) 1)
  have HA1 : Hid (∀ o, Below w5.heap.size w5 (w5.alloc o).drew) := qh fun o => drewN_below ((Below.refl _ w5).alloc (zq _) o) 1
  have hHS := HS.out _ (Below.refl _ _)
  have HSA : Hid (∀ (X : World) (O : Obj), (X.cell? ⟨q, 5, none⟩ = some (.int .i64 a.code) ∧ X.cell? ⟨q, 6, none⟩ = some (.int .i64 a.addr) ∧ X.cell? ⟨q, 7, none⟩ = some (.int .i64 a.count) ∧ X.cell? ⟨q, 8, none⟩ = some (.int .i64 a.to) ∧ X.cell? ⟨q, 9, none⟩ = some (.slice h.1 h.2.1 h.2.2) ∧ X.cell? ⟨q, 10, none⟩ = some (.slice k.1 k.2.1 k.2.2) ∧ X.cell? ⟨q, 11, none⟩ = some (u16v a.and_) ∧ X.cell? ⟨q, 12, none⟩ = some (u16v a.or_) ∧ X.cell? ⟨w3.heap.size, 1, none⟩ = some (.slice A3 n3 k3) ∧ Below w5.heap.size w5 X) → ((X.alloc O).cell? ⟨q, 5, none⟩ = some (.int .i64 a.code) ∧ (X.alloc O).cell? ⟨q, 6, none⟩ = some (.int .i64 a.addr) ∧ (X.alloc O).cell? ⟨q, 7, none⟩ = some (.int .i64 a.count) ∧ (X.alloc O).cell? ⟨q, 8, none⟩ = some (.int .i64 a.to) ∧ (X.alloc O).cell? ⟨q, 9, none⟩ = some (.slice h.1 h.2.1 h.2.2) ∧ (X.alloc O).cell? ⟨q, 10, none⟩ = some (.slice k.1 k.2.1 k.2.2) ∧ (X.alloc O).cell? ⟨q, 11, none⟩ = some (u16v a.and_) ∧ (X.alloc O).cell? ⟨q, 12, none⟩ = some (u16v a.or_) ∧ (X.alloc O).cell? ⟨w3.heap.size, 1, none⟩ = some (.slice A3 n3 k3) ∧ Below w5.heap.size w5 (X.alloc O))) := qh (fun X O h1 => HS.out _ (h1.2.2.2.2.2.2.2.2.2.alloc h1.2.2.2.2.2.2.2.2.2.size O))
  have HSS : Hid (∀ (X : World) (g : Nat) (v0 v1 v2 v3 : Value), w5.heap.size ≤ g → Below w5.heap.size w5 X → (((((X.setCell ⟨g, 0, none⟩ v0).setCell ⟨g, 1, none⟩ v1).setCell ⟨g, 2, none⟩ v2).setCell ⟨g, 3, none⟩ v3).cell? ⟨q, 5, none⟩ = some (.int .i64 a.code) ∧ ((((X.setCell ⟨g, 0, none⟩ v0).setCell ⟨g, 1, none⟩ v1).setCell ⟨g, 2, none⟩ v2).setCell ⟨g, 3, none⟩ v3).cell? ⟨q, 6, none⟩ = some (.int .i64 a.addr) ∧ ((((X.setCell ⟨g, 0, none⟩ v0).setCell ⟨g, 1, none⟩ v1).setCell ⟨g, 2, none⟩ v2).setCell ⟨g, 3, none⟩ v3).cell? ⟨q, 7, none⟩ = some (.int .i64 a.count) ∧ ((((X.setCell ⟨g, 0, none⟩ v0).setCell ⟨g, 1, none⟩ v1).setCell ⟨g, 2, none⟩ v2).setCell ⟨g, 3, none⟩ v3).cell? ⟨q, 8, none⟩ = some (.int .i64 a.to) ∧ ((((X.setCell ⟨g, 0, none⟩ v0).setCell ⟨g, 1, none⟩ v1).setCell ⟨g, 2, none⟩ v2).setCell ⟨g, 3, none⟩ v3).cell? ⟨q, 9, none⟩ = some (.slice h.1 h.2.1 h.2.2) ∧ ((((X.setCell ⟨g, 0, none⟩ v0).setCell ⟨g, 1, none⟩ v1).setCell ⟨g, 2, none⟩ v2).setCell ⟨g, 3, none⟩ v3).cell? ⟨q, 10, none⟩ = some (.slice k.1 k.2.1 k.2.2) ∧ ((((X.setCell ⟨g, 0, none⟩ v0).setCell ⟨g, 1, none⟩ v1).setCell ⟨g, 2, none⟩ v2).setCell ⟨g, 3, none⟩ v3).cell? ⟨q, 11, none⟩ = some (u16v a.and_) ∧ ((((X.setCell ⟨g, 0, none⟩ v0).setCell ⟨g, 1, none⟩ v1).setCell ⟨g, 2, none⟩ v2).setCell ⟨g, 3, none⟩ v3).cell? ⟨q, 12, none⟩ = some (u16v a.or_) ∧ ((((X.setCell ⟨g, 0, none⟩ v0).setCell ⟨g, 1, none⟩ v1).setCell ⟨g, 2, none⟩ v2).setCell ⟨g, 3, none⟩ v3).cell? ⟨w3.heap.size, 1, none⟩ = some (.slice A3 n3 k3) ∧ Below w5.heap.size w5 ((((X.setCell ⟨g, 0, none⟩ v0).setCell ⟨g, 1, none⟩ v1).setCell ⟨g, 2, none⟩ v2).setCell ⟨g, 3, none⟩ v3))) := qh (fun X g v0 v1 v2 v3 hg hX => HS.out _ ((((hX.setCell (p := ⟨g, 0, none⟩) hg v0).setCell (p := ⟨g, 1, none⟩) hg v1).setCell (p := ⟨g, 2, none⟩) hg v2).setCell (p := ⟨g, 3, none⟩) hg v3))
  have HZA := qh (show (w5.alloc zeroAnsL).drew.heap[w5.heap.size]? = some zeroAnsL from row_at w5 #[.int .i64 0, .slice none 0 0, .slice none 0 0, .slice none 0 0] 46 w5.heap.size rfl)
  unfold zeroAnsL at HZA
  go_region_held3 (fun X => (X.cell? ⟨q, 5, none⟩ = some (.int .i64 a.code) ∧ X.cell? ⟨q, 6, none⟩ = some (.int .i64 a.addr) ∧ X.cell? ⟨q, 7, none⟩ = some (.int .i64 a.count) ∧ X.cell? ⟨q, 8, none⟩ = some (.int .i64 a.to) ∧ X.cell? ⟨q, 9, none⟩ = some (.slice h.1 h.2.1 h.2.2) ∧ X.cell? ⟨q, 10, none⟩ = some (.slice k.1 k.2.1 k.2.2) ∧ X.cell? ⟨q, 11, none⟩ = some (u16v a.and_) ∧ X.cell? ⟨q, 12, none⟩ = some (u16v a.or_) ∧ X.cell? ⟨w3.heap.size, 1, none⟩ = some (.slice A3 n3 k3) ∧ Below w5.heap.size w5 X)) (first | with_reducible assumption | with_reducible exact HS.out _ HD1.out | with_reducible exact HS.out _ (HA1.out _) | with_reducible exact HSA.out _ _ (by with_reducible assumption) | with_reducible exact HSS.out _ _ _ _ _ _ (zq _) (by with_reducible assumption) | fail) (first | (go_at_call 169; (with_reducible refine (HRD7.out _ HD1.out).mono ?_); rintro e w6 ⟨xe, xh, xk, xt, rfl, hxe, hx6, hb6⟩; have hW := HD1.out.trans (hb6.mono HD1.out.size); have hz' := hW.size; have hc' := HS.out _ hW) | (go_at_call 169; (with_reducible refine (HRD7.out _ (HA1.out _)).mono ?_); rintro e w6 ⟨xe, xh, xk, xt, rfl, hxe, hx6, hb6⟩; have hW := (HA1.out _).trans (hb6.mono (HA1.out _).size); have hz' := hW.size; have hr6 := row_later HZA.out hb6; obtain ⟨y0, y1, y2, y3⟩ := row_quad_free hr6; obtain ⟨o0, o1, o2, o3⟩ := row_quad hr6; have hlt6 := row_lt hr6; have hc' := HS.out _ hW) | fail)
  · skip
    have hW7 : Below w5.heap.size w5 (w6.alloc (.cells #[.int .i64 xe, .slice xh.1 xh.2.1 xh.2.2, .slice xk.1 xk.2.1 xk.2.2, .slice xt.1 xt.2.1 xt.2.2] 46)) := hW.alloc hW.size _
    have hr7 := row_at w6 #[.int .i64 xe, .slice xh.1 xh.2.1 xh.2.2, .slice xk.1 xk.2.1 xk.2.2, .slice xt.1 xt.2.1 xt.2.2] 46 w6.heap.size rfl
    have hx7 := hx6.below ((Below.refl _ w6).alloc (zq _) (.cells #[.int .i64 xe, .slice xh.1 xh.2.1 xh.2.2, .slice xk.1 xk.2.1 xk.2.2, .slice xt.1 xt.2.1 xt.2.2] 46))
    have hg7 : w5.heap.size ≤ w6.heap.size := hW.size
    generalize w6.alloc (.cells #[.int .i64 xe, .slice xh.1 xh.2.1 xh.2.2, .slice xk.1 xk.2.1 xk.2.2, .slice xt.1 xt.2.1 xt.2.2] 46) = w7 at *
    generalize w6.heap.size = g3 at *
    have b7 := b5.trans (hW7.mono b5.size)
    have HZ7 := qh (row_later HZ5.out hW7)
    have HX7 := qh hx7
    have HXE := qh hxe
    clear hc' hz' hx6 hb6 hHS HSS HSA HZA HD1 HA1 HRD7 HS hW hx7 hxe hg7 hW7
    obtain ⟨p0, p1, p2, p3⟩ := row_quad hr7
    have hlt7 := row_lt hr7
    obtain ⟨o0, o1, o2, o3⟩ := row_quad HZ7.out
    obtain ⟨y0, y1, y2, y3⟩ := row_quad_free HZ7.out
    have hltz := row_lt HZ7.out
    go_wp2_with fail
    obtain ⟨wz, hwz⟩ : ∃ wz, ((((w7.setCell ⟨w.heap.size, 0, none⟩ (.int .i64 xe)).setCell ⟨w.heap.size, 1, none⟩ (.slice xh.1 xh.2.1 xh.2.2)).setCell ⟨w.heap.size, 2, none⟩ (.slice xk.1 xk.2.1 xk.2.2)).setCell ⟨w.heap.size, 3, none⟩ (.slice xt.1 xt.2.1 xt.2.2)) = wz := ⟨_, rfl⟩
    obtain ⟨bz, s0, s1, s2, s3⟩ := four_put b7 HZ7.out (zq _) _ _ _ _ wz hwz
    have hx8 := HX7.out.four HZ7.out (.int .i64 xe) (.slice xh.1 xh.2.1 xh.2.2) (.slice xk.1 xk.2.1 xk.2.2) (.slice xt.1 xt.2.1 xt.2.2)
    rw [hwz] at hx8
    have HX8 := qh hx8
    clear hx8 p0 p1 p2 p3
    rw [hwz]
    clear hwz o0 o1 o2 o3 y0 y1 y2 y3
    refine bodyPost_ret_by (v := .tuple #[.agg #[.int .i64 xe, .slice xh.1 xh.2.1 xh.2.2, .slice xk.1 xk.2.1 xk.2.2, .slice xt.1 xt.2.1 xt.2.2], .bool ((((An.read a (Rtu.pdu b)).2 : Nat) : Int) == 0)]) (by simp [results, Tryz.f143, go_sem, s0, s1, s2, s3]) rfl ?_
    have HN := HH.out
    rw [HN]
    refine ⟨xe, xh, xk, xt, (An.read a (Rtu.pdu b)).1, ?_, HXE.out, HX8.out, fun y hy => ?_, bz⟩
    · by_cases h0 : (An.read a (Rtu.pdu b)).2 = 0
      · rw [if_pos h0, h0]
        rfl
      · rw [if_neg h0, show ((((An.read a (Rtu.pdu b)).2 : Nat) : Int) == 0) = false by rw [beq_eq_false_iff_ne]; omega]
        rfl
    · by_cases h0 : (An.read a (Rtu.pdu b)).2 = 0
      · rw [if_pos h0] at hy
        exact Option.some.inj hy
      · rw [if_neg h0] at hy
        cases hy
  · skip
    have hW7 : Below w5.heap.size w5 ((((w6.setCell ⟨w5.heap.size, 0, none⟩ (.int .i64 xe)).setCell ⟨w5.heap.size, 1, none⟩ (.slice xh.1 xh.2.1 xh.2.2)).setCell ⟨w5.heap.size, 2, none⟩ (.slice xk.1 xk.2.1 xk.2.2)).setCell ⟨w5.heap.size, 3, none⟩ (.slice xt.1 xt.2.1 xt.2.2)) := (((hW.setCell (p := ⟨w5.heap.size, 0, none⟩) (zq _) _).setCell (p := ⟨w5.heap.size, 1, none⟩) (zq _) _).setCell (p := ⟨w5.heap.size, 2, none⟩) (zq _) _).setCell (p := ⟨w5.heap.size, 3, none⟩) (zq _) _
    have hr7 := stored_four8 hr6 (.int .i64 xe) (.slice xh.1 xh.2.1 xh.2.2) (.slice xk.1 xk.2.1 xk.2.2) (.slice xt.1 xt.2.1 xt.2.2)
    have hx7 := hx6.four hr6 (.int .i64 xe) (.slice xh.1 xh.2.1 xh.2.2) (.slice xk.1 xk.2.1 xk.2.2) (.slice xt.1 xt.2.1 xt.2.2)
    have hg7 : w5.heap.size ≤ w5.heap.size := zq _
    obtain ⟨w7, hw7⟩ : ∃ w7, ((((w6.setCell ⟨w5.heap.size, 0, none⟩ (.int .i64 xe)).setCell ⟨w5.heap.size, 1, none⟩ (.slice xh.1 xh.2.1 xh.2.2)).setCell ⟨w5.heap.size, 2, none⟩ (.slice xk.1 xk.2.1 xk.2.2)).setCell ⟨w5.heap.size, 3, none⟩ (.slice xt.1 xt.2.1 xt.2.2)) = w7 := ⟨_, rfl⟩
    rw [hw7] at hW7 hr7 hx7 ⊢
    obtain ⟨g3, hg3⟩ : ∃ g3, w5.heap.size = g3 := ⟨_, rfl⟩
    rw [hg3] at hr7 hg7 ⊢
    clear hw7 y0 y1 y2 y3 o0 o1 o2 o3 hr6 hlt6
    have b7 := b5.trans (hW7.mono b5.size)
    have HZ7 := qh (row_later HZ5.out hW7)
    have HX7 := qh hx7
    have HXE := qh hxe
    clear hc' hz' hx6 hb6 hHS HSS HSA HZA HD1 HA1 HRD7 HS hW hx7 hxe hg7 hW7
    obtain ⟨p0, p1, p2, p3⟩ := row_quad hr7
    have hlt7 := row_lt hr7
    obtain ⟨o0, o1, o2, o3⟩ := row_quad HZ7.out
    obtain ⟨y0, y1, y2, y3⟩ := row_quad_free HZ7.out
    have hltz := row_lt HZ7.out
    go_wp2_with fail
    obtain ⟨wz, hwz⟩ : ∃ wz, ((((w7.setCell ⟨w.heap.size, 0, none⟩ (.int .i64 xe)).setCell ⟨w.heap.size, 1, none⟩ (.slice xh.1 xh.2.1 xh.2.2)).setCell ⟨w.heap.size, 2, none⟩ (.slice xk.1 xk.2.1 xk.2.2)).setCell ⟨w.heap.size, 3, none⟩ (.slice xt.1 xt.2.1 xt.2.2)) = wz := ⟨_, rfl⟩
    obtain ⟨bz, s0, s1, s2, s3⟩ := four_put b7 HZ7.out (zq _) _ _ _ _ wz hwz
    have hx8 := HX7.out.four HZ7.out (.int .i64 xe) (.slice xh.1 xh.2.1 xh.2.2) (.slice xk.1 xk.2.1 xk.2.2) (.slice xt.1 xt.2.1 xt.2.2)
    rw [hwz] at hx8
    have HX8 := qh hx8
    clear hx8 p0 p1 p2 p3
    rw [hwz]
    clear hwz o0 o1 o2 o3 y0 y1 y2 y3
    refine bodyPost_ret_by (v := .tuple #[.agg #[.int .i64 xe, .slice xh.1 xh.2.1 xh.2.2, .slice xk.1 xk.2.1 xk.2.2, .slice xt.1 xt.2.1 xt.2.2], .bool ((((An.read a (Rtu.pdu b)).2 : Nat) : Int) == 0)]) (by simp [results, Tryz.f143, go_sem, s0, s1, s2, s3]) rfl ?_
    have HN := HH.out
    rw [HN]
    refine ⟨xe, xh, xk, xt, (An.read a (Rtu.pdu b)).1, ?_, HXE.out, HX8.out, fun y hy => ?_, bz⟩
    · by_cases h0 : (An.read a (Rtu.pdu b)).2 = 0
      · rw [if_pos h0, h0]
        rfl
      · rw [if_neg h0, show ((((An.read a (Rtu.pdu b)).2 : Nat) : Int) == 0) = false by rw [beq_eq_false_iff_ne]; omega]
        rfl
    · by_cases h0 : (An.read a (Rtu.pdu b)).2 = 0
      · rw [if_pos h0] at hy
        exact Option.some.inj hy
      · rw [if_neg h0] at hy
        cases hy

theorem read8_any (q D : Nat) (S : Nat → Prop) (c : Cfg) (st tr tk sl : Int) (a : Ask) (h k d : Hd) (b : List UInt8) (w : World) (x : LMRaw w q D S c st tr tk sl a h k d b) :
    Calls Tryz.prog 143 #[.pointer (some ⟨q, 0, none⟩)] w (LReadPost w (Ms.heard c a b)) := by
  by_cases hcd : Rtu.codeB b = 0
  · by_cases hun : Rtu.unit b = c.unit
    · exact read8_asked q D S c st tr tk sl a h k d b w x hcd hun
    · exact read8_other q D S c st tr tk sl a h k d b w x hcd hun
  · exact read8_torn q D S c st tr tk sl a h k d b w x hcd

end Go.Proofs.YtlgmjnjhdamknaaGreat
