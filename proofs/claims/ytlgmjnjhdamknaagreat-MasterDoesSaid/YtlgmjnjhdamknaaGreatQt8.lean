
/- A part of the proof of the law MasterDoes. -/
import Derived.Test.YtlgmjnjhdamknaaGreatMem
import Derived.Test.YtlgmjnjhdamknaaGreatPh8
import Derived.Laws.EntriesVeiled
namespace Go.Proofs.YtlgmjnjhdamknaaGreat
open Go.RowKit

set_option maxRecDepth 100000 in
set_option maxHeartbeats 4000000 in
theorem act8_idle (q : Nat) (c : Cfg) (tr tk sl : Int) (a : Ask) (h k d : Hd) (w : World) (hr : w.heap[q]? = some (.cells (lmCells c 0 tr tk sl a h k d) 78 (0, 0))) :
    Calls Tryz.prog 29 #[.pointer (some ⟨q, 0, none⟩)] w fun e w' => e = .returned (.func (.func 54) #[.pointer (some ⟨q, 0, none⟩)] #[]) ∧ Below w.heap.size w w' := by
  have hmf : ∀ (fn : Fn) (first cap : Array Value) (w : World), (Instr.makeFunc fn first cap).run Tryz.prog w = .ok (.func fn first cap) w := fun _ _ _ _ => rfl
  obtain ⟨l0, l1, l2, l3, l4, l5, l6, l7, l8⟩ := lm_loads hr
  have hlt := row_lt hr
  clear hr
  go_enter Tryz.func29, Tryz.ntmps29
  go_wp2_with fail
  go_ret
  exact ⟨rfl, (Below.refl _ _).alloc (zq _) _⟩

set_option maxRecDepth 100000 in
set_option maxHeartbeats 4000000 in
theorem act8_wants (q : Nat) (c : Cfg) (tr tk sl : Int) (a : Ask) (h k d : Hd) (w : World) (hr : w.heap[q]? = some (.cells (lmCells c 1 tr tk sl a h k d) 78 (0, 0))) :
    Calls Tryz.prog 29 #[.pointer (some ⟨q, 0, none⟩)] w fun e w' => e = .returned (.func (.func 55) #[.pointer (some ⟨q, 0, none⟩)] #[]) ∧ Below w.heap.size w w' := by
  have hmf : ∀ (fn : Fn) (first cap : Array Value) (w : World), (Instr.makeFunc fn first cap).run Tryz.prog w = .ok (.func fn first cap) w := fun _ _ _ _ => rfl
  obtain ⟨l0, l1, l2, l3, l4, l5, l6, l7, l8⟩ := lm_loads hr
  have hlt := row_lt hr
  clear hr
  go_enter Tryz.func29, Tryz.ntmps29
  go_wp2_with fail
  go_ret
  exact ⟨rfl, (Below.refl _ _).alloc (zq _) _⟩

set_option maxRecDepth 100000 in
set_option maxHeartbeats 4000000 in
theorem act8_waits (q : Nat) (c : Cfg) (tr tk sl : Int) (a : Ask) (h k d : Hd) (w : World) (hr : w.heap[q]? = some (.cells (lmCells c 2 tr tk sl a h k d) 78 (0, 0))) :
    Calls Tryz.prog 29 #[.pointer (some ⟨q, 0, none⟩)] w fun e w' => e = .returned (.func (.func 56) #[.pointer (some ⟨q, 0, none⟩)] #[]) ∧ Below w.heap.size w w' := by
  have hmf : ∀ (fn : Fn) (first cap : Array Value) (w : World), (Instr.makeFunc fn first cap).run Tryz.prog w = .ok (.func fn first cap) w := fun _ _ _ _ => rfl
  obtain ⟨l0, l1, l2, l3, l4, l5, l6, l7, l8⟩ := lm_loads hr
  have hlt := row_lt hr
  clear hr
  go_enter Tryz.func29, Tryz.ntmps29
  go_wp2_with fail
  go_ret
  exact ⟨rfl, (Below.refl _ _).alloc (zq _) _⟩

theorem ltick_start {w : World} {q D : Nat} {S : Nat → Prop} {c : Cfg} {st tr tk sl : Int} {a : Ask} {h k d : Hd} {b : List UInt8} (x : LMRaw w q D S c st tr tk sl a h k d b) (v : Int) (W : World) (hW : ((w.setCell ⟨q, 15, none⟩ (.int .i64 v)).alloc zeroOut).drew = W) :
    But [q] w W ∧ LMRaw W q D (fun g => S g ∨ g = w.heap.size) c st tr tk v a h k d b ∧ W.heap[w.heap.size]? = some zeroOut := by
  subst hW
  have hs : (w.setCell ⟨q, 15, none⟩ (.int .i64 v)).heap.size = w.heap.size := by simp [World.setCell]
  have b1 : But [q] w (w.setCell ⟨q, 15, none⟩ (.int .i64 v)) := But.one w q 15 _
  have x1 := x.next b1 ((lm_set x.row).2.2 v)
  have hb : Below (w.setCell ⟨q, 15, none⟩ (.int .i64 v)).heap.size (w.setCell ⟨q, 15, none⟩ (.int .i64 v)) ((w.setCell ⟨q, 15, none⟩ (.int .i64 v)).alloc zeroOut).drew := drewN_below ((Below.refl _ _).alloc (zq _) _) 1
  have hz : ((w.setCell ⟨q, 15, none⟩ (.int .i64 v)).alloc zeroOut).drew.heap[w.heap.size]? = some zeroOut := row_at (w.setCell ⟨q, 15, none⟩ (.int .i64 v)) _ _ w.heap.size hs
  refine ⟨b1.then_below hb, x1.widen hb (.inl x.sq) (.inl x.sD) (fun g hg => hg.imp id (fun e => by omega)) (fun g hg => ?_), hz⟩
  rcases hg with hg | rfl
  · exact Nat.lt_of_lt_of_le (x.lt g hg) (b1.then_below hb).size
  · exact row_lt hz
def LTickPost (S : Nat → Prop) (q D : Nat) (c : Cfg) (w : World) (r : Mst × List UInt8 × MOut) (e : Ending) (w' : World) : Prop :=
  ∃ (B : Option Addr) (n cc : Nat) (xe : Int) (h k t : Hd), e = .returned (.tuple #[.slice B n cc, outV ((Ms.kind r.2.2 : Nat) : Int) xe h k t]) ∧ (Ms.ans r.2.2).exc = xe ∧ Told8 w' r B n cc h k t ∧ LMAt w' S q D c r.1 ∧ But [q] w w'
set_option maxRecDepth 100000 in
set_option maxHeartbeats 4000000 in
theorem tick8_idle (S : Nat → Prop) (q D : Nat) (c : Cfg) (mq : Nat) (tr tk : Int) (a : Ask) (h k d : Hd) (b : List UInt8) (w : World) (x : LMRaw w q D S c 0 tr tk mq a h k d b) (hq : mq ≤ c.gap) (hc : Ms.right c = true) :
    Calls Tryz.prog 12 #[.pointer (some ⟨q, 0, none⟩)] w fun e w' => LTickPost S q D c w (⟨min (mq + 1) c.gap, .idle⟩, [], .none) e w' ∧ Kept w w' := by
  have hsm := cfg_small hc
  have hqlt := row_lt x.row
  have hSz := x.lt
  have hSq := x.sq
  have hSD := x.sD
  have HX := qh x
  obtain ⟨l0, l1, l2, l3, l4, l5, l6, l7, l8⟩ := lm_loads x.row
  have f15 := lm_frees x.row 15
  obtain ⟨Q, hQ⟩ : ∃ Q : Nat, min (mq + 1) c.gap = Q := ⟨_, rfl⟩
  have hmin : min ((mq : Int) + 1) (c.gap : Int) = (Q : Int) := by omega
  have i1 : (mq : Int) + 1 < 9223372036854775808 := by omega
  have HQG : Hid (Q ≤ c.gap) := qh (by omega)
  have HQ := qh hQ
  clear x hQ hsm
  go_enter Tryz.func12, Tryz.ntmps12
  go_wp2_with fail
  go_region
  obtain ⟨w1, hw1⟩ : ∃ w1, ((w.setCell ⟨q, 15, none⟩ (.int .i64 (Q : Int))).alloc zeroOut).drew = w1 := ⟨_, rfl⟩
  obtain ⟨b1, x1, z1⟩ := ltick_start HX.out (Q : Int) w1 hw1
  unfold zeroOut at hw1
  rw [hw1]
  have HX1 := qh x1
  have HZ1 := qh z1
  have HA := qh (act8_idle q c _ _ _ a h k d w1 x1.row)
  clear hw1 x1 z1 l0 l1 l2 l3 l4 l5 l6 l7 l8 f15 hmin i1
  go_wp2_with fail
  refine HA.out.mono ?_
  rintro e w2 ⟨rfl, hb2⟩
  have HX2 := qh (HX1.out.below hb2)
  have HZ2 := qh (row_later HZ1.out hb2)
  have b2 := b1.then_below hb2
  clear hb2 HA
  have HF := qh (rest8_any (some ⟨q, 0, none⟩) w2)
  go_wp2_with fail
  refine HF.out.mono ?_
  rintro e wf ⟨rfl, hbf⟩
  have HBF := qh (But.of_below hbf (zq _) [q])
  have HXF := qh (HX2.out.below hbf)
  have HY := qh (AnsIn.zero wf)
  have HM : Hid (LMAt wf (fun g => S g ∨ g = w.heap.size) q D c ⟨Q, .idle⟩) := qh ⟨0, tr, tk, a, h, k, d, b, HXF.out, HQG.out, rfl⟩
  clear hbf HF
  have hzz := row_but HZ2.out HBF.out (by rw [List.mem_singleton]; omega)
  have HZF := qh hzz
  unfold zeroOut at hzz
  obtain ⟨⟨o0, o1, o2, o3, o4⟩, y0, y1, y2, y3, y4⟩ := row_five8 hzz
  have hltz := row_lt hzz
  clear hzz
  go_wp2_with fail
  obtain ⟨wz, hwz⟩ : ∃ wz, (((((wf.setCell ⟨w.heap.size, 0, none⟩ (.int .i64 0)).setCell ⟨w.heap.size, 1, none⟩ (.int .i64 0)).setCell ⟨w.heap.size, 2, none⟩ (.slice none 0 0)).setCell ⟨w.heap.size, 3, none⟩ (.slice none 0 0)).setCell ⟨w.heap.size, 4, none⟩ (.slice none 0 0)) = wz := ⟨_, rfl⟩
  have hbg : But [w.heap.size] wf wz := (stored_five8 HZF.out _ _ _ _ _ wz hwz).2 [w.heap.size] wf (But.refl _ _) (.inl (List.mem_singleton.2 rfl))
  obtain ⟨hy8, hm8, hb8, hr8⟩ := out_put b2 HBF.out (zq _) hqlt HZ2.out hSz HY.out HM.out hSq hSD _ _ _ _ _ wz hwz
  have hkr := lm_kept hb8 HX.out.row (row_but HXF.out.row hbg (by rw [List.mem_singleton]; omega)) rfl rfl
  have HFIN : Hid (LTickPost S q D c w (⟨min (mq + 1) c.gap, .idle⟩, [], .none) (.returned (.tuple #[.slice none 0 0, outV 0 0 (none, 0, 0) (none, 0, 0) (none, 0, 0)])) wz ∧ Kept w wz) := qh (by
    rw [HQ.out]
    exact ⟨⟨none, 0, 0, 0, (none, 0, 0), (none, 0, 0), (none, 0, 0), rfl, rfl, ⟨rfl, zq _, Nat.zero_le _, Lies.nil _ _, AnsIn.zero _⟩, hm8, hb8⟩, hkr⟩)
  clear hkr
  rw [hwz]
  clear hwz o0 o1 o2 o3 o4 y0 y1 y2 y3 y4 hy8 hm8 hb8 hbg
  obtain ⟨⟨o0, o1, o2, o3, o4⟩, -⟩ := row_five8 hr8
  refine bodyPost_ret_by (v := .tuple #[.slice none 0 0, .agg #[.int .i64 0, .int .i64 0, .slice none 0 0, .slice none 0 0, .slice none 0 0]]) (by simp [results, Tryz.f12, go_sem, o0, o1, o2, o3, o4]) rfl ?_
  exact HFIN.out

set_option maxRecDepth 100000 in
set_option maxHeartbeats 4000000 in
theorem tick8_wants (S : Nat → Prop) (q D : Nat) (c : Cfg) (mq f t : Nat) (a : Ask) (h k d : Hd) (b : List UInt8) (w : World) (x : LMRaw w q D S c 1 t f mq a h k d b) (hq : mq ≤ c.gap) (hc : Ms.right c = true) (hf : f < c.wait) (ht : t < c.tries) :
    Calls Tryz.prog 12 #[.pointer (some ⟨q, 0, none⟩)] w (LTickPost S q D c w (Ms.tick c ⟨mq, .wants f t a⟩)) := by
  obtain ⟨R, hR⟩ : ∃ R, Ms.tickSt c (min (mq + 1) c.gap) (.wants f t a) = R := ⟨_, rfl⟩
  have HRR : Hid ((Ms.tick c ⟨mq, .wants f t a⟩) = R) := qh hR
  have hsm := cfg_small hc
  have hqlt := row_lt x.row
  have hSz := x.lt
  have hSq := x.sq
  have hSD := x.sD
  have HX := qh x
  obtain ⟨l0, l1, l2, l3, l4, l5, l6, l7, l8⟩ := lm_loads x.row
  have f15 := lm_frees x.row 15
  obtain ⟨Q, hQ⟩ : ∃ Q : Nat, min (mq + 1) c.gap = Q := ⟨_, rfl⟩
  have hmin : min ((mq : Int) + 1) (c.gap : Int) = (Q : Int) := by omega
  have i1 : (mq : Int) + 1 < 9223372036854775808 := by omega
  have HQG : Hid (Q ≤ c.gap) := qh (by omega)
  have HQ := qh hQ
  have HR2 : Hid (Ms.tickSt c Q (.wants f t a) = R) := qh (by rw [← hQ]; exact hR)
  clear x hQ hsm hR
  go_enter Tryz.func12, Tryz.ntmps12
  go_wp2_with fail
  go_region
  obtain ⟨w1, hw1⟩ : ∃ w1, ((w.setCell ⟨q, 15, none⟩ (.int .i64 (Q : Int))).alloc zeroOut).drew = w1 := ⟨_, rfl⟩
  obtain ⟨b1, x1, z1⟩ := ltick_start HX.out (Q : Int) w1 hw1
  unfold zeroOut at hw1
  rw [hw1]
  have HX1 := qh x1
  have HZ1 := qh z1
  have HA := qh (act8_wants q c _ _ _ a h k d w1 x1.row)
  clear hw1 x1 z1 l0 l1 l2 l3 l4 l5 l6 l7 l8 f15 hmin i1
  go_wp2_with fail
  refine HA.out.mono ?_
  rintro e w2 ⟨rfl, hb2⟩
  have HX2 := qh (HX1.out.below hb2)
  have HZ2 := qh (row_later HZ1.out hb2)
  have b2 := b1.then_below hb2
  clear hb2 HA
  have HF := qh (send8_any (fun g => S g ∨ g = w.heap.size) q D c Q f t a h k d b w2 HX2.out HQG.out hc hf ht)
  go_wp2_with fail
  refine HF.out.mono ?_
  rintro e wf hp
  obtain ⟨B, n, cc, xe, yh, yk, yt, he, hxe, htold, hm, hbf⟩ := hp
  rw [HR2.out] at he hxe htold hm
  obtain ⟨m', bs, o⟩ := R
  obtain ⟨KK, hKK⟩ : ∃ KK : Nat, Ms.kind o = KK := ⟨_, rfl⟩
  have he : e = .returned (.tuple #[.slice B n cc, .agg #[.int .i64 (KK : Int), .int .i64 xe, .slice yh.1 yh.2.1 yh.2.2, .slice yk.1 yk.2.1 yk.2.2, .slice yt.1 yt.2.1 yt.2.2]]) := by rw [← hKK]; exact he
  obtain rfl := he
  have HK := qh hKK
  have HXE := qh hxe
  have HY := qh htold.xi
  have HTOLD := qh htold
  have HM := qh hm
  have HBF := qh hbf
  clear hKK hxe htold hm hbf HF
  have hzz := row_but HZ2.out HBF.out (by rw [List.mem_singleton]; omega)
  have HZF := qh hzz
  unfold zeroOut at hzz
  obtain ⟨⟨o0, o1, o2, o3, o4⟩, y0, y1, y2, y3, y4⟩ := row_five8 hzz
  have hltz := row_lt hzz
  clear hzz
  go_wp2_with fail
  obtain ⟨wz, hwz⟩ : ∃ wz, (((((wf.setCell ⟨w.heap.size, 0, none⟩ (.int .i64 (KK : Int))).setCell ⟨w.heap.size, 1, none⟩ (.int .i64 xe)).setCell ⟨w.heap.size, 2, none⟩ (.slice yh.1 yh.2.1 yh.2.2)).setCell ⟨w.heap.size, 3, none⟩ (.slice yk.1 yk.2.1 yk.2.2)).setCell ⟨w.heap.size, 4, none⟩ (.slice yt.1 yt.2.1 yt.2.2)) = wz := ⟨_, rfl⟩
  have hbg : But [w.heap.size] wf wz := (stored_five8 HZF.out _ _ _ _ _ wz hwz).2 [w.heap.size] wf (But.refl _ _) (.inl (List.mem_singleton.2 rfl))
  obtain ⟨hy8, hm8, hb8, hr8⟩ := out_put b2 HBF.out (zq _) hqlt HZ2.out hSz HY.out HM.out hSq hSD _ _ _ _ _ wz hwz
  have hl8 := HTOLD.out.bl.but hbg (far_out (fun _ => rfl) HZF.out HTOLD.out.bl)
  have HFIN : Hid (LTickPost S q D c w (Ms.tick c ⟨mq, .wants f t a⟩) (.returned (.tuple #[.slice B n cc, outV (KK : Int) xe yh yk yt])) wz) := qh (by
    rw [HRR.out]
    exact ⟨B, n, cc, xe, yh, yk, yt, by rw [← HK.out], HXE.out, ⟨HTOLD.out.bn, HTOLD.out.bc, HTOLD.out.bm, hl8, hy8⟩, hm8, hb8⟩)
  clear hl8
  rw [hwz]
  clear hwz o0 o1 o2 o3 o4 y0 y1 y2 y3 y4 hy8 hm8 hb8 hbg
  obtain ⟨⟨o0, o1, o2, o3, o4⟩, -⟩ := row_five8 hr8
  refine bodyPost_ret_by (v := .tuple #[.slice B n cc, .agg #[.int .i64 (KK : Int), .int .i64 xe, .slice yh.1 yh.2.1 yh.2.2, .slice yk.1 yk.2.1 yk.2.2, .slice yt.1 yt.2.1 yt.2.2]]) (by simp [results, Tryz.f12, go_sem, o0, o1, o2, o3, o4]) rfl ?_
  exact HFIN.out

theorem hear8_any (S : Nat → Prop) (q D : Nat) (c : Cfg) (mq f t : Nat) (a : Ask) (h k d : Hd) (b : List UInt8) (w : World) (x : LMRaw w q D S c 2 t f mq a h k d b) (hq : mq ≤ c.gap) (hc : Ms.right c = true) (hf : f < 2 * c.wait) (hka : Ak.right a = true) :
    Calls Tryz.prog 56 #[.pointer (some ⟨q, 0, none⟩)] w (LTellPost S q D c w (Ms.tickSt c mq (.waits f t a b))) := by
  have he : Ms.tickSt c mq (.waits f t a b) = if b = [] then (if c.wait ≤ f + 1 then Ms.fail c mq t a .silent else (⟨mq, .waits (f + 1) t a b⟩, [], .none))
        else if c.gap ≤ mq then (match Ms.heard c a b with
          | some x => (⟨mq, .idle⟩, [], .done x)
          | none => Ms.fail c mq t a .garbled)
        else if 2 * c.wait ≤ f + 1 then Ms.fail c mq t a .garbled else (⟨mq, .waits (f + 1) t a b⟩, [], .none) := rfl
  rw [he]
  by_cases hb : b = []
  · rw [if_pos hb]
    by_cases hw : c.wait ≤ f + 1
    · rw [if_pos hw]
      exact hear8_silent S q D c mq f t a h k d b w x hq hc hf hb hw
    · rw [if_neg hw]
      exact hear8_on S q D c mq f t a h k d b w x hq hc hf hb hw
  · rw [if_neg hb]
    by_cases hg : c.gap ≤ mq
    · rw [if_pos hg]
      cases hh : Ms.heard c a b with
      | none => exact hear8_no S q D c mq f t a h k d b w x hq hc hf hb hg hh
      | some y => exact hear8_yes S q D c mq f t a h k d b w x hq hc hf hb hg hka y hh
    · rw [if_neg hg]
      by_cases hw : 2 * c.wait ≤ f + 1
      · rw [if_pos hw]
        exact hear8_late S q D c mq f t a h k d b w x hq hc hf hb hg hw
      · rw [if_neg hw]
        exact hear8_more S q D c mq f t a h k d b w x hq hc hf hb hg hw

set_option maxRecDepth 100000 in
set_option maxHeartbeats 4000000 in
theorem tick8_waits (S : Nat → Prop) (q D : Nat) (c : Cfg) (mq f t : Nat) (a : Ask) (h k d : Hd) (b : List UInt8) (w : World) (x : LMRaw w q D S c 2 t f mq a h k d b) (hq : mq ≤ c.gap) (hc : Ms.right c = true) (hf : f < 2 * c.wait) (hka : Ak.right a = true) :
    Calls Tryz.prog 12 #[.pointer (some ⟨q, 0, none⟩)] w (LTickPost S q D c w (Ms.tick c ⟨mq, .waits f t a b⟩)) := by
  obtain ⟨R, hR⟩ : ∃ R, Ms.tickSt c (min (mq + 1) c.gap) (.waits f t a b) = R := ⟨_, rfl⟩
  have HRR : Hid ((Ms.tick c ⟨mq, .waits f t a b⟩) = R) := qh hR
  have hsm := cfg_small hc
  have hqlt := row_lt x.row
  have hSz := x.lt
  have hSq := x.sq
  have hSD := x.sD
  have HX := qh x
  obtain ⟨l0, l1, l2, l3, l4, l5, l6, l7, l8⟩ := lm_loads x.row
  have f15 := lm_frees x.row 15
  obtain ⟨Q, hQ⟩ : ∃ Q : Nat, min (mq + 1) c.gap = Q := ⟨_, rfl⟩
  have hmin : min ((mq : Int) + 1) (c.gap : Int) = (Q : Int) := by omega
  have i1 : (mq : Int) + 1 < 9223372036854775808 := by omega
  have HQG : Hid (Q ≤ c.gap) := qh (by omega)
  have HQ := qh hQ
  have HR2 : Hid (Ms.tickSt c Q (.waits f t a b) = R) := qh (by rw [← hQ]; exact hR)
  clear x hQ hsm hR
  go_enter Tryz.func12, Tryz.ntmps12
  go_wp2_with fail
  go_region
  obtain ⟨w1, hw1⟩ : ∃ w1, ((w.setCell ⟨q, 15, none⟩ (.int .i64 (Q : Int))).alloc zeroOut).drew = w1 := ⟨_, rfl⟩
  obtain ⟨b1, x1, z1⟩ := ltick_start HX.out (Q : Int) w1 hw1
  unfold zeroOut at hw1
  rw [hw1]
  have HX1 := qh x1
  have HZ1 := qh z1
  have HA := qh (act8_waits q c _ _ _ a h k d w1 x1.row)
  clear hw1 x1 z1 l0 l1 l2 l3 l4 l5 l6 l7 l8 f15 hmin i1
  go_wp2_with fail
  refine HA.out.mono ?_
  rintro e w2 ⟨rfl, hb2⟩
  have HX2 := qh (HX1.out.below hb2)
  have HZ2 := qh (row_later HZ1.out hb2)
  have b2 := b1.then_below hb2
  clear hb2 HA
  have HF := qh (hear8_any (fun g => S g ∨ g = w.heap.size) q D c Q f t a h k d b w2 HX2.out HQG.out hc hf hka)
  go_wp2_with fail
  refine HF.out.mono ?_
  rintro e wf hp
  obtain ⟨B, n, cc, xe, yh, yk, yt, he, hxe, htold, hm, hbf⟩ := hp
  rw [HR2.out] at he hxe htold hm
  obtain ⟨m', bs, o⟩ := R
  obtain ⟨KK, hKK⟩ : ∃ KK : Nat, Ms.kind o = KK := ⟨_, rfl⟩
  have he : e = .returned (.tuple #[.slice B n cc, .agg #[.int .i64 (KK : Int), .int .i64 xe, .slice yh.1 yh.2.1 yh.2.2, .slice yk.1 yk.2.1 yk.2.2, .slice yt.1 yt.2.1 yt.2.2]]) := by rw [← hKK]; exact he
  obtain rfl := he
  have HK := qh hKK
  have HXE := qh hxe
  have HY := qh htold.xi
  have HTOLD := qh htold
  have HM := qh hm
  have HBF := qh hbf
  clear hKK hxe htold hm hbf HF
  have hzz := row_but HZ2.out HBF.out (by rw [List.mem_singleton]; omega)
  have HZF := qh hzz
  unfold zeroOut at hzz
  obtain ⟨⟨o0, o1, o2, o3, o4⟩, y0, y1, y2, y3, y4⟩ := row_five8 hzz
  have hltz := row_lt hzz
  clear hzz
  go_wp2_with fail
  obtain ⟨wz, hwz⟩ : ∃ wz, (((((wf.setCell ⟨w.heap.size, 0, none⟩ (.int .i64 (KK : Int))).setCell ⟨w.heap.size, 1, none⟩ (.int .i64 xe)).setCell ⟨w.heap.size, 2, none⟩ (.slice yh.1 yh.2.1 yh.2.2)).setCell ⟨w.heap.size, 3, none⟩ (.slice yk.1 yk.2.1 yk.2.2)).setCell ⟨w.heap.size, 4, none⟩ (.slice yt.1 yt.2.1 yt.2.2)) = wz := ⟨_, rfl⟩
  have hbg : But [w.heap.size] wf wz := (stored_five8 HZF.out _ _ _ _ _ wz hwz).2 [w.heap.size] wf (But.refl _ _) (.inl (List.mem_singleton.2 rfl))
  obtain ⟨hy8, hm8, hb8, hr8⟩ := out_put b2 HBF.out (zq _) hqlt HZ2.out hSz HY.out HM.out hSq hSD _ _ _ _ _ wz hwz
  have hl8 := HTOLD.out.bl.but hbg (far_out (fun _ => rfl) HZF.out HTOLD.out.bl)
  have HFIN : Hid (LTickPost S q D c w (Ms.tick c ⟨mq, .waits f t a b⟩) (.returned (.tuple #[.slice B n cc, outV (KK : Int) xe yh yk yt])) wz) := qh (by
    rw [HRR.out]
    exact ⟨B, n, cc, xe, yh, yk, yt, by rw [← HK.out], HXE.out, ⟨HTOLD.out.bn, HTOLD.out.bc, HTOLD.out.bm, hl8, hy8⟩, hm8, hb8⟩)
  clear hl8
  rw [hwz]
  clear hwz o0 o1 o2 o3 o4 y0 y1 y2 y3 y4 hy8 hm8 hb8 hbg
  obtain ⟨⟨o0, o1, o2, o3, o4⟩, -⟩ := row_five8 hr8
  refine bodyPost_ret_by (v := .tuple #[.slice B n cc, .agg #[.int .i64 (KK : Int), .int .i64 xe, .slice yh.1 yh.2.1 yh.2.2, .slice yk.1 yk.2.1 yk.2.2, .slice yt.1 yt.2.1 yt.2.2]]) (by simp [results, Tryz.f12, go_sem, o0, o1, o2, o3, o4]) rfl ?_
  exact HFIN.out

theorem tick8_any (S : Nat → Prop) (q D : Nat) (c : Cfg) (m : Mst) (w : World) (hc : Ms.right c = true) (hM : LMAt w S q D c m) (hO : Ms.Ok c m.st) :
    Calls Tryz.prog 12 #[.pointer (some ⟨q, 0, none⟩)] w fun e w' => LTickPost S q D c w (Ms.tick c m) e w' ∧ (m.st = .idle → Kept w w') := by
  obtain ⟨st, tr, tk, a, h, k, d, b, hr, hq, hi⟩ := hM
  obtain ⟨mq, ms⟩ := m
  cases ms with
  | idle =>
    obtain rfl : st = 0 := hi
    exact (tick8_idle S q D c mq tr tk a h k d b w hr hq hc).mono fun _ _ x => ⟨x.1, fun _ => x.2⟩
  | wants f t a' =>
    obtain ⟨rfl, rfl, rfl, rfl⟩ := hi
    rcases hO with hO | ⟨a', hO, -⟩
    · cases hO
    · exact (tick8_wants S q D c mq f t a h k d b w hr hq hc hO.2.1 hO.2.2).mono fun _ _ x => ⟨x, fun h => by cases h⟩
  | waits f t a' b' =>
    obtain ⟨rfl, rfl, rfl, rfl, rfl⟩ := hi
    rcases hO with hO | ⟨a', hO, hka⟩
    · cases hO
    · obtain ⟨h0, h1, -⟩ := hO
      exact (tick8_waits S q D c mq f t a h k d b w hr hq hc h1 (by rw [h0]; exact hka)).mono fun _ _ x => ⟨x, fun h => by cases h⟩

end Go.Proofs.YtlgmjnjhdamknaaGreat
