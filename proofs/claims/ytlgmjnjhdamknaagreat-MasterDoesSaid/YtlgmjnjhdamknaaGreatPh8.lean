
/- A part of the proof of the law MasterDoes. -/
import Derived.Test.YtlgmjnjhdamknaaGreatMem
import Derived.Test.YtlgmjnjhdamknaaGreatOs8
import Derived.Deep.Cut
import Derived.Deep.CutRange
import Derived.Deep.DeepCutAuto
namespace Go.Proofs.YtlgmjnjhdamknaaGreat
open Go.RowKit

theorem LOutPost.out {S : Nat → Prop} {q D : Nat} {c : Cfg} {w : World} {m : Mst} {o : MOut} {e : Ending} {w' : World} (p : LOutPost S q D c w m o e w') :
    ∃ (KK : Nat) (xe : Int) (h k t : Hd), e = .returned (.agg #[.int .i64 (KK : Int), .int .i64 xe, .slice h.1 h.2.1 h.2.2, .slice k.1 k.2.1 k.2.2, .slice t.1 t.2.1 t.2.2]) ∧ Ms.kind o = KK ∧ (Ms.ans o).exc = xe ∧ AnsIn w' (Ms.ans o) h k t ∧ LMAt w' S q D c m ∧ But [q] w w' := by
  obtain ⟨xe, h, k, t, he, h1, h2, h3, h4⟩ := p
  exact ⟨_, xe, h, k, t, he, rfl, h1, h2, h3, h4⟩
set_option maxRecDepth 100000 in
set_option maxHeartbeats 4000000 in
theorem hear8_silent (S : Nat → Prop) (q D : Nat) (c : Cfg) (mq f t : Nat) (a : Ask) (h k d : Hd) (b : List UInt8) (w : World) (x : LMRaw w q D S c 2 t f mq a h k d b) (hq : mq ≤ c.gap) (hc : Ms.right c = true) (hf : f < 2 * c.wait) (hb0 : b = []) (hw : c.wait ≤ f + 1) :
    Calls Tryz.prog 56 #[.pointer (some ⟨q, 0, none⟩)] w (LTellPost S q D c w (Ms.fail c mq t a .silent)) := by
  have hbn := x.came.2.2.1
  obtain ⟨dA, dn, dc⟩ := d
  have hbn : b.length = dn := hbn
  have hsm := cfg_small hc
  have hqlt := row_lt x.row
  have hSz := x.lt
  have hSq := x.sq
  have hSD := x.sD
  have HX := qh x
  have l14 : w.cell? ⟨q, 14, none⟩ = some (.int .i64 f) := (lm_loads x.row).2.2.2.2.2.2.1
  have l16 : w.cell? ⟨q, 16, none⟩ = some (.slice dA dn dc) := (lm_loads x.row).2.2.2.2.2.2.2.2
  have f14 := lm_frees x.row 14
  have hdn : dn = 0 := by rw [← hbn, hb0]; rfl
  subst hdn
  have i1 : (f : Int) + 1 < 9223372036854775808 := by omega
  have HD2 : Hid ((c.wait : Int) ≤ (f : Int) + 1) := qh (by omega)
  clear x hf hsm hw hbn hb0
  go_enter Tryz.func56, Tryz.ntmps56
  go_wp2_with fail
  obtain ⟨w1, hw1⟩ : ∃ w1, (w.setCell ⟨q, 14, none⟩ (.int .i64 ((f : Int) + 1))).alloc zeroOut = w1 := ⟨_, rfl⟩
  obtain ⟨b1, x1, z1⟩ := tell_start HX.out ((f : Int) + 1) w1 hw1
  unfold zeroOut at hw1
  rw [hw1]
  have HX1 := qh x1
  have HZ1 := qh z1
  clear hw1 x1 z1 l14 l16 f14
  obtain ⟨l0, l1, l2, l3, l4, l5, l6, l7, l8⟩ := lm_loads HX1.out.row
  go_quiet (fail)
  clear l0 l1 l2 l3 l4 l5 l6 l7 l8
  have b2 := b1.drewN nq
  have hbd : Below w1.heap.size w1 (w1.drewN nq) := drewN_below (Below.refl _ _) nq
  have HX2 := qh (HX1.out.below hbd)
  have HZ2 := qh (row_later HZ1.out hbd)
  clear hbd
  generalize w1.drewN nq = w2 at *
  go_wp2_with fail
  obtain ⟨l0, l1, l2, l3, l4, l5, l6, l7, l8⟩ := lm_loads HX2.out.row
  have i2 := HD2.out
  go_quiet (fail)
  clear l0 l1 l2 l3 l4 l5 l6 l7 l8
  have b3 := b2.drewN nq
  have hbd : Below w2.heap.size w2 (w2.drewN nq) := drewN_below (Below.refl _ _) nq
  have HX3 := qh (HX2.out.below hbd)
  have HZ3 := qh (row_later HZ2.out hbd)
  clear hbd
  generalize w2.drewN nq = w3 at *
  clear i2
  have HF := qh (fail8_any (fun g => S g ∨ g = w.heap.size) q D c mq t ((f : Int) + 1) a h k (dA, 0, dc) b w3 .silent (.inl rfl) HX3.out hq)
  go_wp2_with fail
  refine HF.out.mono ?_
  rintro e wf hp
  obtain ⟨KK, xe, yh, yk, yt, rfl, hk, hxe, hy, hm, hbf⟩ := hp.out
  have HK := qh hk
  have HXE := qh hxe
  have HY := qh hy
  have HM := qh hm
  have HBF := qh hbf
  clear hp hk hxe hy hm hbf HF
  have hzz := row_but HZ3.out HBF.out (by rw [List.mem_singleton]; omega)
  unfold zeroOut at hzz
  obtain ⟨⟨o0, o1, o2, o3, o4⟩, y0, y1, y2, y3, y4⟩ := row_five8 hzz
  have hltz := row_lt hzz
  clear hzz
  go_wp2_with fail
  obtain ⟨wz, hwz⟩ : ∃ wz, (((((wf.setCell ⟨w.heap.size, 0, none⟩ (.int .i64 (KK : Int))).setCell ⟨w.heap.size, 1, none⟩ (.int .i64 xe)).setCell ⟨w.heap.size, 2, none⟩ (.slice yh.1 yh.2.1 yh.2.2)).setCell ⟨w.heap.size, 3, none⟩ (.slice yk.1 yk.2.1 yk.2.2)).setCell ⟨w.heap.size, 4, none⟩ (.slice yt.1 yt.2.1 yt.2.2)) = wz := ⟨_, rfl⟩
  obtain ⟨hy8, hm8, hb8, hr8⟩ := out_put b3 HBF.out (zq _) hqlt HZ3.out hSz HY.out HM.out hSq hSD _ _ _ _ _ wz hwz
  have HFIN : Hid (LTellPost S q D c w (Ms.fail c mq t a .silent) (.returned (.tuple #[.slice none 0 0, outV (KK : Int) xe yh yk yt])) wz) := qh ⟨none, 0, 0, xe, yh, yk, yt, by rw [← HK.out], HXE.out, ⟨by rw [fail_nil]; rfl, zq _, Nat.zero_le _, by rw [fail_nil]; exact Lies.nil _ _, hy8⟩, hm8, hb8⟩
  rw [hwz]
  clear hwz o0 o1 o2 o3 o4 y0 y1 y2 y3 y4 hy8 hm8 hb8
  obtain ⟨⟨o0, o1, o2, o3, o4⟩, -⟩ := row_five8 hr8
  refine bodyPost_ret_by (v := .tuple #[.slice none 0 0, .agg #[.int .i64 (KK : Int), .int .i64 xe, .slice yh.1 yh.2.1 yh.2.2, .slice yk.1 yk.2.1 yk.2.2, .slice yt.1 yt.2.1 yt.2.2]]) (by simp [results, Tryz.f56, go_sem, o0, o1, o2, o3, o4]) rfl ?_
  exact HFIN.out

set_option maxRecDepth 100000 in
set_option maxHeartbeats 4000000 in
theorem hear8_on (S : Nat → Prop) (q D : Nat) (c : Cfg) (mq f t : Nat) (a : Ask) (h k d : Hd) (b : List UInt8) (w : World) (x : LMRaw w q D S c 2 t f mq a h k d b) (hq : mq ≤ c.gap) (hc : Ms.right c = true) (_hf : f < 2 * c.wait) (hb0 : b = []) (hw : ¬ c.wait ≤ f + 1) :
    Calls Tryz.prog 56 #[.pointer (some ⟨q, 0, none⟩)] w (LTellPost S q D c w (⟨mq, .waits (f + 1) t a b⟩, [], .none)) := by
  have hbn := x.came.2.2.1
  obtain ⟨dA, dn, dc⟩ := d
  have hbn : b.length = dn := hbn
  have hsm := cfg_small hc
  have hqlt := row_lt x.row
  have hSz := x.lt
  have hSq := x.sq
  have hSD := x.sD
  have HX := qh x
  have l14 : w.cell? ⟨q, 14, none⟩ = some (.int .i64 f) := (lm_loads x.row).2.2.2.2.2.2.1
  have l16 : w.cell? ⟨q, 16, none⟩ = some (.slice dA dn dc) := (lm_loads x.row).2.2.2.2.2.2.2.2
  have f14 := lm_frees x.row 14
  have hdn : dn = 0 := by rw [← hbn, hb0]; rfl
  subst hdn
  have i1 : (f : Int) + 1 < 9223372036854775808 := by omega
  have HD2 : Hid (decide ((c.wait : Int) ≤ (f : Int) + 1) = false) := qh (by simp; omega)
  clear x _hf hsm hw hbn hb0
  go_enter Tryz.func56, Tryz.ntmps56
  go_wp2_with fail
  obtain ⟨w1, hw1⟩ : ∃ w1, (w.setCell ⟨q, 14, none⟩ (.int .i64 ((f : Int) + 1))).alloc zeroOut = w1 := ⟨_, rfl⟩
  obtain ⟨b1, x1, z1⟩ := tell_start HX.out ((f : Int) + 1) w1 hw1
  unfold zeroOut at hw1
  rw [hw1]
  have HX1 := qh x1
  have HZ1 := qh z1
  clear hw1 x1 z1 l14 l16 f14
  obtain ⟨l0, l1, l2, l3, l4, l5, l6, l7, l8⟩ := lm_loads HX1.out.row
  go_quiet (fail)
  clear l0 l1 l2 l3 l4 l5 l6 l7 l8
  have b2 := b1.drewN nq
  have hbd : Below w1.heap.size w1 (w1.drewN nq) := drewN_below (Below.refl _ _) nq
  have HX2 := qh (HX1.out.below hbd)
  have HZ2 := qh (row_later HZ1.out hbd)
  clear hbd
  generalize w1.drewN nq = w2 at *
  go_wp2_with fail
  obtain ⟨l0, l1, l2, l3, l4, l5, l6, l7, l8⟩ := lm_loads HX2.out.row
  go_quiet (fail)
  clear l0 l1 l2 l3 l4 l5 l6 l7 l8
  have b3 := b2.drewN nq
  have hbd : Below w2.heap.size w2 (w2.drewN nq) := drewN_below (Below.refl _ _) nq
  have HX3 := qh (HX2.out.below hbd)
  have HZ3 := qh (row_later HZ2.out hbd)
  clear hbd
  generalize w2.drewN nq = w3 at *
  rw [HD2.out]
  have hzz := row_but HZ3.out (But.refl [q] w3) (by rw [List.mem_singleton]; omega)
  unfold zeroOut at hzz
  obtain ⟨⟨o0, o1, o2, o3, o4⟩, y0, y1, y2, y3, y4⟩ := row_five8 hzz
  have hltz := row_lt hzz
  clear hzz
  go_wp2_with fail
  obtain ⟨wz, hwz⟩ : ∃ wz, (((((w3.setCell ⟨w.heap.size, 0, none⟩ (.int .i64 0)).setCell ⟨w.heap.size, 1, none⟩ (.int .i64 0)).setCell ⟨w.heap.size, 2, none⟩ (.slice none 0 0)).setCell ⟨w.heap.size, 3, none⟩ (.slice none 0 0)).setCell ⟨w.heap.size, 4, none⟩ (.slice none 0 0)) = wz := ⟨_, rfl⟩
  obtain ⟨hy8, hm8, hb8, hr8⟩ := out_put b3 (But.refl [q] w3) (zq _) hqlt HZ3.out hSz (AnsIn.zero w3) (show LMAt w3 _ q D c ⟨mq, .waits (f + 1) t a b⟩ from ⟨2, t, ((f + 1 : Nat) : Int), a, h, k, (dA, 0, dc), b, HX3.out, hq, rfl, rfl, rfl, rfl, rfl⟩) hSq hSD _ _ _ _ _ wz hwz
  have HFIN : Hid (LTellPost S q D c w (⟨mq, .waits (f + 1) t a b⟩, [], .none) (.returned (.tuple #[.slice none 0 0, outV 0 0 (none, 0, 0) (none, 0, 0) (none, 0, 0)])) wz) := qh ⟨none, 0, 0, 0, (none, 0, 0), (none, 0, 0), (none, 0, 0), rfl, rfl, ⟨rfl, zq _, Nat.zero_le _, Lies.nil _ _, AnsIn.zero _⟩, hm8, hb8⟩
  rw [hwz]
  clear hwz o0 o1 o2 o3 o4 y0 y1 y2 y3 y4 hy8 hm8 hb8
  obtain ⟨⟨o0, o1, o2, o3, o4⟩, -⟩ := row_five8 hr8
  refine bodyPost_ret_by (v := .tuple #[.slice none 0 0, .agg #[.int .i64 0, .int .i64 0, .slice none 0 0, .slice none 0 0, .slice none 0 0]]) (by simp [results, Tryz.f56, go_sem, o0, o1, o2, o3, o4]) rfl ?_
  exact HFIN.out

set_option maxRecDepth 100000 in
set_option maxHeartbeats 4000000 in
theorem hear8_no (S : Nat → Prop) (q D : Nat) (c : Cfg) (mq f t : Nat) (a : Ask) (h k d : Hd) (b : List UInt8) (w : World) (x : LMRaw w q D S c 2 t f mq a h k d b) (hq : mq ≤ c.gap) (hc : Ms.right c = true) (hf : f < 2 * c.wait) (hb0 : b ≠ []) (hn : c.gap ≤ mq) (hh : Ms.heard c a b = none) :
    Calls Tryz.prog 56 #[.pointer (some ⟨q, 0, none⟩)] w (LTellPost S q D c w (Ms.fail c mq t a .garbled)) := by
  have hbn := x.came.2.2.1
  obtain ⟨dA, dn, dc⟩ := d
  have hbn : b.length = dn := hbn
  have hsm := cfg_small hc
  have hqlt := row_lt x.row
  have hSz := x.lt
  have hSq := x.sq
  have hSD := x.sD
  have HX := qh x
  have l14 : w.cell? ⟨q, 14, none⟩ = some (.int .i64 f) := (lm_loads x.row).2.2.2.2.2.2.1
  have l16 : w.cell? ⟨q, 16, none⟩ = some (.slice dA dn dc) := (lm_loads x.row).2.2.2.2.2.2.2.2
  have f14 := lm_frees x.row 14
  have HDP : Hid (decide (0 < dn) = true) := qh (decide_eq_true (by have : b.length ≠ 0 := (fun e => hb0 (List.eq_nil_of_length_eq_zero e)); omega))
  have i1 : (f : Int) + 1 < 9223372036854775808 := by omega
  have HD : Hid (decide ((c.gap : Int) ≤ (mq : Int)) = true) := qh (by simp; omega)
  clear x hf hsm hbn hb0 hn
  go_enter Tryz.func56, Tryz.ntmps56
  go_upto_region 3 with fail
  rw [HDP.out]
  obtain ⟨w1, hw1⟩ : ∃ w1, (w.setCell ⟨q, 14, none⟩ (.int .i64 ((f : Int) + 1))).alloc zeroOut = w1 := ⟨_, rfl⟩
  obtain ⟨b1, x1, z1⟩ := tell_start HX.out ((f : Int) + 1) w1 hw1
  unfold zeroOut at hw1
  rw [hw1]
  have HX1 := qh x1
  have HZ1 := qh z1
  clear hw1 x1 z1 l14 l16 f14
  go_wp2_with fail
  have HQ0 : Hid (Calls Tryz.prog 97 #[.pointer (some ⟨q, 0, none⟩)] w1 fun e w' => e = .returned (.bool true) ∧ ∃ m, w' = w1.drewN m) := qh (by
    have := quiet8_any q c _ _ _ _ a h k (dA, dn, dc) w1 HX1.out.row
    rw [HD.out] at this
    exact this)
  refine HQ0.out.mono ?_
  rintro e w2 ⟨rfl, nq, rfl⟩
  have b2 := b1.drewN nq
  have hbd : Below w1.heap.size w1 (w1.drewN nq) := drewN_below (Below.refl _ _) nq
  have HX2 := qh (HX1.out.below hbd)
  have HZ2 := qh (row_later HZ1.out hbd)
  clear hbd HQ0
  generalize w1.drewN nq = w2 at *
  have HF := qh (heard8_no (fun g => S g ∨ g = w.heap.size) q D c mq t ((f : Int) + 1) a h k (dA, dn, dc) b w2 HX2.out hq hh)
  go_wp2_with fail
  refine HF.out.mono ?_
  rintro e wf hp
  obtain ⟨KK, xe, yh, yk, yt, rfl, hk, hxe, hy, hm, hbf⟩ := hp.out
  have HK := qh hk
  have HXE := qh hxe
  have HY := qh hy
  have HM := qh hm
  have HBF := qh hbf
  clear hp hk hxe hy hm hbf HF
  have hzz := row_but HZ2.out HBF.out (by rw [List.mem_singleton]; omega)
  unfold zeroOut at hzz
  obtain ⟨⟨o0, o1, o2, o3, o4⟩, y0, y1, y2, y3, y4⟩ := row_five8 hzz
  have hltz := row_lt hzz
  clear hzz
  go_wp2_with fail
  obtain ⟨wz, hwz⟩ : ∃ wz, (((((wf.setCell ⟨w.heap.size, 0, none⟩ (.int .i64 (KK : Int))).setCell ⟨w.heap.size, 1, none⟩ (.int .i64 xe)).setCell ⟨w.heap.size, 2, none⟩ (.slice yh.1 yh.2.1 yh.2.2)).setCell ⟨w.heap.size, 3, none⟩ (.slice yk.1 yk.2.1 yk.2.2)).setCell ⟨w.heap.size, 4, none⟩ (.slice yt.1 yt.2.1 yt.2.2)) = wz := ⟨_, rfl⟩
  obtain ⟨hy8, hm8, hb8, hr8⟩ := out_put b2 HBF.out (zq _) hqlt HZ2.out hSz HY.out HM.out hSq hSD _ _ _ _ _ wz hwz
  have HFIN : Hid (LTellPost S q D c w (Ms.fail c mq t a .garbled) (.returned (.tuple #[.slice none 0 0, outV (KK : Int) xe yh yk yt])) wz) := qh ⟨none, 0, 0, xe, yh, yk, yt, by rw [← HK.out], HXE.out, ⟨by rw [fail_nil]; rfl, zq _, Nat.zero_le _, by rw [fail_nil]; exact Lies.nil _ _, hy8⟩, hm8, hb8⟩
  rw [hwz]
  clear hwz o0 o1 o2 o3 o4 y0 y1 y2 y3 y4 hy8 hm8 hb8
  obtain ⟨⟨o0, o1, o2, o3, o4⟩, -⟩ := row_five8 hr8
  refine bodyPost_ret_by (v := .tuple #[.slice none 0 0, .agg #[.int .i64 (KK : Int), .int .i64 xe, .slice yh.1 yh.2.1 yh.2.2, .slice yk.1 yk.2.1 yk.2.2, .slice yt.1 yt.2.1 yt.2.2]]) (by simp [results, Tryz.f56, go_sem, o0, o1, o2, o3, o4]) rfl ?_
  exact HFIN.out

set_option maxRecDepth 100000 in
set_option maxHeartbeats 4000000 in
theorem hear8_yes (S : Nat → Prop) (q D : Nat) (c : Cfg) (mq f t : Nat) (a : Ask) (h k d : Hd) (b : List UInt8) (w : World) (x : LMRaw w q D S c 2 t f mq a h k d b) (hq : mq ≤ c.gap) (hc : Ms.right c = true) (hf : f < 2 * c.wait) (hb0 : b ≠ []) (hn : c.gap ≤ mq) (hka : Ak.right a = true) (y : Ans) (hh : Ms.heard c a b = some y) :
    Calls Tryz.prog 56 #[.pointer (some ⟨q, 0, none⟩)] w (LTellPost S q D c w (⟨mq, .idle⟩, [], .done y)) := by
  have hbn := x.came.2.2.1
  obtain ⟨dA, dn, dc⟩ := d
  have hbn : b.length = dn := hbn
  have hsm := cfg_small hc
  have hqlt := row_lt x.row
  have hSz := x.lt
  have hSq := x.sq
  have hSD := x.sD
  have HX := qh x
  have l14 : w.cell? ⟨q, 14, none⟩ = some (.int .i64 f) := (lm_loads x.row).2.2.2.2.2.2.1
  have l16 : w.cell? ⟨q, 16, none⟩ = some (.slice dA dn dc) := (lm_loads x.row).2.2.2.2.2.2.2.2
  have f14 := lm_frees x.row 14
  have HDP : Hid (decide (0 < dn) = true) := qh (decide_eq_true (by have : b.length ≠ 0 := (fun e => hb0 (List.eq_nil_of_length_eq_zero e)); omega))
  have i1 : (f : Int) + 1 < 9223372036854775808 := by omega
  have HD : Hid (decide ((c.gap : Int) ≤ (mq : Int)) = true) := qh (by simp; omega)
  clear x hf hsm hbn hb0 hn
  go_enter Tryz.func56, Tryz.ntmps56
  go_upto_region 3 with fail
  rw [HDP.out]
  obtain ⟨w1, hw1⟩ : ∃ w1, (w.setCell ⟨q, 14, none⟩ (.int .i64 ((f : Int) + 1))).alloc zeroOut = w1 := ⟨_, rfl⟩
  obtain ⟨b1, x1, z1⟩ := tell_start HX.out ((f : Int) + 1) w1 hw1
  unfold zeroOut at hw1
  rw [hw1]
  have HX1 := qh x1
  have HZ1 := qh z1
  clear hw1 x1 z1 l14 l16 f14
  go_wp2_with fail
  have HQ0 : Hid (Calls Tryz.prog 97 #[.pointer (some ⟨q, 0, none⟩)] w1 fun e w' => e = .returned (.bool true) ∧ ∃ m, w' = w1.drewN m) := qh (by
    have := quiet8_any q c _ _ _ _ a h k (dA, dn, dc) w1 HX1.out.row
    rw [HD.out] at this
    exact this)
  refine HQ0.out.mono ?_
  rintro e w2 ⟨rfl, nq, rfl⟩
  have b2 := b1.drewN nq
  have hbd : Below w1.heap.size w1 (w1.drewN nq) := drewN_below (Below.refl _ _) nq
  have HX2 := qh (HX1.out.below hbd)
  have HZ2 := qh (row_later HZ1.out hbd)
  clear hbd HQ0
  generalize w1.drewN nq = w2 at *
  have HF := qh (heard8_yes (fun g => S g ∨ g = w.heap.size) q D c mq t ((f : Int) + 1) a h k (dA, dn, dc) b w2 HX2.out hq hka y hh)
  go_wp2_with fail
  refine HF.out.mono ?_
  rintro e wf hp
  obtain ⟨KK, xe, yh, yk, yt, rfl, hk, hxe, hy, hm, hbf⟩ := hp.out
  have HK := qh hk
  have HXE := qh hxe
  have HY := qh hy
  have HM := qh hm
  have HBF := qh hbf
  clear hp hk hxe hy hm hbf HF
  have hzz := row_but HZ2.out HBF.out (by rw [List.mem_singleton]; omega)
  unfold zeroOut at hzz
  obtain ⟨⟨o0, o1, o2, o3, o4⟩, y0, y1, y2, y3, y4⟩ := row_five8 hzz
  have hltz := row_lt hzz
  clear hzz
  go_wp2_with fail
  obtain ⟨wz, hwz⟩ : ∃ wz, (((((wf.setCell ⟨w.heap.size, 0, none⟩ (.int .i64 (KK : Int))).setCell ⟨w.heap.size, 1, none⟩ (.int .i64 xe)).setCell ⟨w.heap.size, 2, none⟩ (.slice yh.1 yh.2.1 yh.2.2)).setCell ⟨w.heap.size, 3, none⟩ (.slice yk.1 yk.2.1 yk.2.2)).setCell ⟨w.heap.size, 4, none⟩ (.slice yt.1 yt.2.1 yt.2.2)) = wz := ⟨_, rfl⟩
  obtain ⟨hy8, hm8, hb8, hr8⟩ := out_put b2 HBF.out (zq _) hqlt HZ2.out hSz HY.out HM.out hSq hSD _ _ _ _ _ wz hwz
  have HFIN : Hid (LTellPost S q D c w (⟨mq, .idle⟩, [], .done y) (.returned (.tuple #[.slice none 0 0, outV (KK : Int) xe yh yk yt])) wz) := qh ⟨none, 0, 0, xe, yh, yk, yt, by rw [← HK.out], HXE.out, ⟨rfl, zq _, Nat.zero_le _, Lies.nil _ _, hy8⟩, hm8, hb8⟩
  rw [hwz]
  clear hwz o0 o1 o2 o3 o4 y0 y1 y2 y3 y4 hy8 hm8 hb8
  obtain ⟨⟨o0, o1, o2, o3, o4⟩, -⟩ := row_five8 hr8
  refine bodyPost_ret_by (v := .tuple #[.slice none 0 0, .agg #[.int .i64 (KK : Int), .int .i64 xe, .slice yh.1 yh.2.1 yh.2.2, .slice yk.1 yk.2.1 yk.2.2, .slice yt.1 yt.2.1 yt.2.2]]) (by simp [results, Tryz.f56, go_sem, o0, o1, o2, o3, o4]) rfl ?_
  exact HFIN.out

set_option maxRecDepth 100000 in
set_option maxHeartbeats 4000000 in
theorem hear8_late (S : Nat → Prop) (q D : Nat) (c : Cfg) (mq f t : Nat) (a : Ask) (h k d : Hd) (b : List UInt8) (w : World) (x : LMRaw w q D S c 2 t f mq a h k d b) (hq : mq ≤ c.gap) (hc : Ms.right c = true) (hf : f < 2 * c.wait) (hb0 : b ≠ []) (hn : ¬ c.gap ≤ mq) (hw : 2 * c.wait ≤ f + 1) :
    Calls Tryz.prog 56 #[.pointer (some ⟨q, 0, none⟩)] w (LTellPost S q D c w (Ms.fail c mq t a .garbled)) := by
  have hbn := x.came.2.2.1
  obtain ⟨dA, dn, dc⟩ := d
  have hbn : b.length = dn := hbn
  have hsm := cfg_small hc
  have hqlt := row_lt x.row
  have hSz := x.lt
  have hSq := x.sq
  have hSD := x.sD
  have HX := qh x
  have l14 : w.cell? ⟨q, 14, none⟩ = some (.int .i64 f) := (lm_loads x.row).2.2.2.2.2.2.1
  have l16 : w.cell? ⟨q, 16, none⟩ = some (.slice dA dn dc) := (lm_loads x.row).2.2.2.2.2.2.2.2
  have f14 := lm_frees x.row 14
  have HDP : Hid (decide (0 < dn) = true) := qh (decide_eq_true (by have : b.length ≠ 0 := (fun e => hb0 (List.eq_nil_of_length_eq_zero e)); omega))
  have i1 : (f : Int) + 1 < 9223372036854775808 := by omega
  have HI2 : Hid (2 * (c.wait : Int) < 9223372036854775808) := qh (by omega)
  have HD : Hid (decide ((c.gap : Int) ≤ (mq : Int)) = false) := qh (by simp; omega)
  have HW : Hid (decide (2 * (c.wait : Int) ≤ (f : Int) + 1) = true) := qh (by simp; omega)
  clear x hf hsm hw hbn hb0 hn
  go_enter Tryz.func56, Tryz.ntmps56
  go_upto_region 3 with fail
  rw [HDP.out]
  obtain ⟨w1, hw1⟩ : ∃ w1, (w.setCell ⟨q, 14, none⟩ (.int .i64 ((f : Int) + 1))).alloc zeroOut = w1 := ⟨_, rfl⟩
  obtain ⟨b1, x1, z1⟩ := tell_start HX.out ((f : Int) + 1) w1 hw1
  unfold zeroOut at hw1
  rw [hw1]
  have HX1 := qh x1
  have HZ1 := qh z1
  clear hw1 x1 z1 l14 l16 f14
  go_wp2_with fail
  have HQ0 : Hid (Calls Tryz.prog 97 #[.pointer (some ⟨q, 0, none⟩)] w1 fun e w' => e = .returned (.bool false) ∧ ∃ m, w' = w1.drewN m) := qh (by
    have := quiet8_any q c _ _ _ _ a h k (dA, dn, dc) w1 HX1.out.row
    rw [HD.out] at this
    exact this)
  refine HQ0.out.mono ?_
  rintro e w2 ⟨rfl, nq, rfl⟩
  have b2 := b1.drewN nq
  have hbd : Below w1.heap.size w1 (w1.drewN nq) := drewN_below (Below.refl _ _) nq
  have HX2 := qh (HX1.out.below hbd)
  have HZ2 := qh (row_later HZ1.out hbd)
  clear hbd HQ0
  generalize w1.drewN nq = w2 at *
  go_wp2_with fail
  obtain ⟨l0, l1, l2, l3, l4, l5, l6, l7, l8⟩ := lm_loads HX2.out.row
  have i3 := HI2.out
  go_quiet (fail)
  clear l0 l1 l2 l3 l4 l5 l6 l7 l8
  have b3 := b2.drewN nq
  have hbd : Below w2.heap.size w2 (w2.drewN nq) := drewN_below (Below.refl _ _) nq
  have HX3 := qh (HX2.out.below hbd)
  have HZ3 := qh (row_later HZ2.out hbd)
  clear hbd
  generalize w2.drewN nq = w3 at *
  clear i3
  rw [HW.out]
  have HF := qh (fail8_any (fun g => S g ∨ g = w.heap.size) q D c mq t ((f : Int) + 1) a h k (dA, dn, dc) b w3 .garbled (.inr rfl) HX3.out hq)
  go_wp2_with fail
  refine HF.out.mono ?_
  rintro e wf hp
  obtain ⟨KK, xe, yh, yk, yt, rfl, hk, hxe, hy, hm, hbf⟩ := hp.out
  have HK := qh hk
  have HXE := qh hxe
  have HY := qh hy
  have HM := qh hm
  have HBF := qh hbf
  clear hp hk hxe hy hm hbf HF
  have hzz := row_but HZ3.out HBF.out (by rw [List.mem_singleton]; omega)
  unfold zeroOut at hzz
  obtain ⟨⟨o0, o1, o2, o3, o4⟩, y0, y1, y2, y3, y4⟩ := row_five8 hzz
  have hltz := row_lt hzz
  clear hzz
  go_wp2_with fail
  obtain ⟨wz, hwz⟩ : ∃ wz, (((((wf.setCell ⟨w.heap.size, 0, none⟩ (.int .i64 (KK : Int))).setCell ⟨w.heap.size, 1, none⟩ (.int .i64 xe)).setCell ⟨w.heap.size, 2, none⟩ (.slice yh.1 yh.2.1 yh.2.2)).setCell ⟨w.heap.size, 3, none⟩ (.slice yk.1 yk.2.1 yk.2.2)).setCell ⟨w.heap.size, 4, none⟩ (.slice yt.1 yt.2.1 yt.2.2)) = wz := ⟨_, rfl⟩
  obtain ⟨hy8, hm8, hb8, hr8⟩ := out_put b3 HBF.out (zq _) hqlt HZ3.out hSz HY.out HM.out hSq hSD _ _ _ _ _ wz hwz
  have HFIN : Hid (LTellPost S q D c w (Ms.fail c mq t a .garbled) (.returned (.tuple #[.slice none 0 0, outV (KK : Int) xe yh yk yt])) wz) := qh ⟨none, 0, 0, xe, yh, yk, yt, by rw [← HK.out], HXE.out, ⟨by rw [fail_nil]; rfl, zq _, Nat.zero_le _, by rw [fail_nil]; exact Lies.nil _ _, hy8⟩, hm8, hb8⟩
  rw [hwz]
  clear hwz o0 o1 o2 o3 o4 y0 y1 y2 y3 y4 hy8 hm8 hb8
  obtain ⟨⟨o0, o1, o2, o3, o4⟩, -⟩ := row_five8 hr8
  refine bodyPost_ret_by (v := .tuple #[.slice none 0 0, .agg #[.int .i64 (KK : Int), .int .i64 xe, .slice yh.1 yh.2.1 yh.2.2, .slice yk.1 yk.2.1 yk.2.2, .slice yt.1 yt.2.1 yt.2.2]]) (by simp [results, Tryz.f56, go_sem, o0, o1, o2, o3, o4]) rfl ?_
  exact HFIN.out

set_option maxRecDepth 100000 in
set_option maxHeartbeats 4000000 in
theorem hear8_more (S : Nat → Prop) (q D : Nat) (c : Cfg) (mq f t : Nat) (a : Ask) (h k d : Hd) (b : List UInt8) (w : World) (x : LMRaw w q D S c 2 t f mq a h k d b) (hq : mq ≤ c.gap) (hc : Ms.right c = true) (_hf : f < 2 * c.wait) (hb0 : b ≠ []) (hn : ¬ c.gap ≤ mq) (hw : ¬ 2 * c.wait ≤ f + 1) :
    Calls Tryz.prog 56 #[.pointer (some ⟨q, 0, none⟩)] w (LTellPost S q D c w (⟨mq, .waits (f + 1) t a b⟩, [], .none)) := by
  have hbn := x.came.2.2.1
  obtain ⟨dA, dn, dc⟩ := d
  have hbn : b.length = dn := hbn
  have hsm := cfg_small hc
  have hqlt := row_lt x.row
  have hSz := x.lt
  have hSq := x.sq
  have hSD := x.sD
  have HX := qh x
  have l14 : w.cell? ⟨q, 14, none⟩ = some (.int .i64 f) := (lm_loads x.row).2.2.2.2.2.2.1
  have l16 : w.cell? ⟨q, 16, none⟩ = some (.slice dA dn dc) := (lm_loads x.row).2.2.2.2.2.2.2.2
  have f14 := lm_frees x.row 14
  have HDP : Hid (decide (0 < dn) = true) := qh (decide_eq_true (by have : b.length ≠ 0 := (fun e => hb0 (List.eq_nil_of_length_eq_zero e)); omega))
  have i1 : (f : Int) + 1 < 9223372036854775808 := by omega
  have HI2 : Hid (2 * (c.wait : Int) < 9223372036854775808) := qh (by omega)
  have HD : Hid (decide ((c.gap : Int) ≤ (mq : Int)) = false) := qh (by simp; omega)
  have HW : Hid (decide (2 * (c.wait : Int) ≤ (f : Int) + 1) = false) := qh (by simp; omega)
  clear x _hf hsm hw hbn hb0 hn
  go_enter Tryz.func56, Tryz.ntmps56
  go_upto_region 3 with fail
  rw [HDP.out]
  obtain ⟨w1, hw1⟩ : ∃ w1, (w.setCell ⟨q, 14, none⟩ (.int .i64 ((f : Int) + 1))).alloc zeroOut = w1 := ⟨_, rfl⟩
  obtain ⟨b1, x1, z1⟩ := tell_start HX.out ((f : Int) + 1) w1 hw1
  unfold zeroOut at hw1
  rw [hw1]
  have HX1 := qh x1
  have HZ1 := qh z1
  clear hw1 x1 z1 l14 l16 f14
  go_wp2_with fail
  have HQ0 : Hid (Calls Tryz.prog 97 #[.pointer (some ⟨q, 0, none⟩)] w1 fun e w' => e = .returned (.bool false) ∧ ∃ m, w' = w1.drewN m) := qh (by
    have := quiet8_any q c _ _ _ _ a h k (dA, dn, dc) w1 HX1.out.row
    rw [HD.out] at this
    exact this)
  refine HQ0.out.mono ?_
  rintro e w2 ⟨rfl, nq, rfl⟩
  have b2 := b1.drewN nq
  have hbd : Below w1.heap.size w1 (w1.drewN nq) := drewN_below (Below.refl _ _) nq
  have HX2 := qh (HX1.out.below hbd)
  have HZ2 := qh (row_later HZ1.out hbd)
  clear hbd HQ0
  generalize w1.drewN nq = w2 at *
  go_wp2_with fail
  obtain ⟨l0, l1, l2, l3, l4, l5, l6, l7, l8⟩ := lm_loads HX2.out.row
  have i3 := HI2.out
  go_quiet (fail)
  clear l0 l1 l2 l3 l4 l5 l6 l7 l8
  have b3 := b2.drewN nq
  have hbd : Below w2.heap.size w2 (w2.drewN nq) := drewN_below (Below.refl _ _) nq
  have HX3 := qh (HX2.out.below hbd)
  have HZ3 := qh (row_later HZ2.out hbd)
  clear hbd
  generalize w2.drewN nq = w3 at *
  clear i3
  rw [HW.out]
  go_wp2_with fail
  obtain ⟨l0, l1, l2, l3, l4, l5, l6, l7, l8⟩ := lm_loads HX3.out.row
  go_quiet (fail)
  clear l0 l1 l2 l3 l4 l5 l6 l7 l8
  have b4 := b3.drewN nq
  have hbd : Below w3.heap.size w3 (w3.drewN nq) := drewN_below (Below.refl _ _) nq
  have HX4 := qh (HX3.out.below hbd)
  have HZ4 := qh (row_later HZ3.out hbd)
  clear hbd
  generalize w3.drewN nq = w4 at *
  have hzz := row_but HZ4.out (But.refl [q] w4) (by rw [List.mem_singleton]; omega)
  unfold zeroOut at hzz
  obtain ⟨⟨o0, o1, o2, o3, o4⟩, y0, y1, y2, y3, y4⟩ := row_five8 hzz
  have hltz := row_lt hzz
  clear hzz
  go_wp2_with fail
  obtain ⟨wz, hwz⟩ : ∃ wz, (((((w4.setCell ⟨w.heap.size, 0, none⟩ (.int .i64 0)).setCell ⟨w.heap.size, 1, none⟩ (.int .i64 0)).setCell ⟨w.heap.size, 2, none⟩ (.slice none 0 0)).setCell ⟨w.heap.size, 3, none⟩ (.slice none 0 0)).setCell ⟨w.heap.size, 4, none⟩ (.slice none 0 0)) = wz := ⟨_, rfl⟩
  obtain ⟨hy8, hm8, hb8, hr8⟩ := out_put b4 (But.refl [q] w4) (zq _) hqlt HZ4.out hSz (AnsIn.zero w4) (show LMAt w4 _ q D c ⟨mq, .waits (f + 1) t a b⟩ from ⟨2, t, ((f + 1 : Nat) : Int), a, h, k, (dA, dn, dc), b, HX4.out, hq, rfl, rfl, rfl, rfl, rfl⟩) hSq hSD _ _ _ _ _ wz hwz
  have HFIN : Hid (LTellPost S q D c w (⟨mq, .waits (f + 1) t a b⟩, [], .none) (.returned (.tuple #[.slice none 0 0, outV 0 0 (none, 0, 0) (none, 0, 0) (none, 0, 0)])) wz) := qh ⟨none, 0, 0, 0, (none, 0, 0), (none, 0, 0), (none, 0, 0), rfl, rfl, ⟨rfl, zq _, Nat.zero_le _, Lies.nil _ _, AnsIn.zero _⟩, hm8, hb8⟩
  rw [hwz]
  clear hwz o0 o1 o2 o3 o4 y0 y1 y2 y3 y4 hy8 hm8 hb8
  obtain ⟨⟨o0, o1, o2, o3, o4⟩, -⟩ := row_five8 hr8
  refine bodyPost_ret_by (v := .tuple #[.slice none 0 0, .agg #[.int .i64 0, .int .i64 0, .slice none 0 0, .slice none 0 0, .slice none 0 0]]) (by simp [results, Tryz.f56, go_sem, o0, o1, o2, o3, o4]) rfl ?_
  exact HFIN.out

end Go.Proofs.YtlgmjnjhdamknaaGreat
