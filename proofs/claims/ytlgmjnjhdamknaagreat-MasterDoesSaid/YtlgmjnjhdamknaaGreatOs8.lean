
/- A part of the proof of the law MasterDoes. -/
import Derived.Test.YtlgmjnjhdamknaaGreatMem
import Derived.Test.YtlgmjnjhdamknaaGreatNr8
namespace Go.Proofs.YtlgmjnjhdamknaaGreat
open Go.RowKit

def LTellPost (S : Nat → Prop) (q D : Nat) (c : Cfg) (w : World) (r : Mst × List UInt8 × MOut) (e : Ending) (w' : World) : Prop :=
  ∃ (B : Option Addr) (n cc : Nat) (xe : Int) (h k t : Hd), e = .returned (.tuple #[.slice B n cc, outV ((Ms.kind r.2.2 : Nat) : Int) xe h k t]) ∧ (Ms.ans r.2.2).exc = xe ∧ Told8 w' r B n cc h k t ∧ LMAt w' S q D c r.1 ∧ But [q] w w'
theorem lm_set {w : World} {q : Nat} {c : Cfg} {st tr tk sl : Int} {a : Ask} {h k d : Hd} {T : TypeId} (hr : w.heap[q]? = some (.cells (lmCells c st tr tk sl a h k d) T (0, 0))) : (∀ v : Int, (w.setCell ⟨q, 13, none⟩ (.int .i64 v)).heap[q]? = some (.cells (lmCells c st v tk sl a h k d) T (0, 0))) ∧ (∀ v : Int, (w.setCell ⟨q, 14, none⟩ (.int .i64 v)).heap[q]? = some (.cells (lmCells c st tr v sl a h k d) T (0, 0))) ∧ (∀ v : Int, (w.setCell ⟨q, 15, none⟩ (.int .i64 v)).heap[q]? = some (.cells (lmCells c st tr tk v a h k d) T (0, 0))) :=
  ⟨fun v => by rw [row_set hr]; rfl, fun v => by rw [row_set hr]; rfl, fun v => by rw [row_set hr]; rfl⟩
theorem tell_start {w : World} {q D : Nat} {S : Nat → Prop} {c : Cfg} {st tr tk sl : Int} {a : Ask} {h k d : Hd} {b : List UInt8} (x : LMRaw w q D S c st tr tk sl a h k d b) (v : Int) (W : World) (hW : (w.setCell ⟨q, 14, none⟩ (.int .i64 v)).alloc zeroOut = W) :
    But [q] w W ∧ LMRaw W q D (fun g => S g ∨ g = w.heap.size) c st tr v sl a h k d b ∧ W.heap[w.heap.size]? = some zeroOut := by
  subst hW
  have hs : (w.setCell ⟨q, 14, none⟩ (.int .i64 v)).heap.size = w.heap.size := by simp [World.setCell]
  have b1 : But [q] w (w.setCell ⟨q, 14, none⟩ (.int .i64 v)) := But.one w q 14 _
  have x1 := x.next b1 ((lm_set x.row).2.1 v)
  have hb : Below (w.setCell ⟨q, 14, none⟩ (.int .i64 v)).heap.size (w.setCell ⟨q, 14, none⟩ (.int .i64 v)) ((w.setCell ⟨q, 14, none⟩ (.int .i64 v)).alloc zeroOut) := (Below.refl _ _).alloc (zq _) _
  have hz : ((w.setCell ⟨q, 14, none⟩ (.int .i64 v)).alloc zeroOut).heap[w.heap.size]? = some zeroOut := row_at _ _ _ w.heap.size hs
  refine ⟨b1.then_below hb, x1.widen hb (.inl x.sq) (.inl x.sD) (fun g hg => hg.imp id (fun e => by omega)) (fun g hg => ?_), hz⟩
  rcases hg with hg | rfl
  · exact Nat.lt_of_lt_of_le (x.lt g hg) (b1.then_below hb).size
  · exact row_lt hz

set_option maxRecDepth 100000 in
set_option maxHeartbeats 4000000 in
theorem send8_not (S : Nat → Prop) (q D : Nat) (c : Cfg) (mq f t : Nat) (a : Ask) (h k d : Hd) (b : List UInt8) (w : World) (x : LMRaw w q D S c 1 t f mq a h k d b) (hq : mq ≤ c.gap) (hc : Ms.right c = true) (hn : mq < c.gap) (hf : f + 1 < c.wait) :
    Calls Tryz.prog 55 #[.pointer (some ⟨q, 0, none⟩)] w (LTellPost S q D c w (⟨mq, .wants (f + 1) t a⟩, [], .none)) := by
  have hsm := cfg_small hc
  have hqlt := row_lt x.row
  have hSz := x.lt
  have hSq := x.sq
  have hSD := x.sD
  have HX := qh x
  have l14 : w.cell? ⟨q, 14, none⟩ = some (.int .i64 f) := (lm_loads x.row).2.2.2.2.2.2.1
  have l16 : w.cell? ⟨q, 16, none⟩ = some (.slice d.1 d.2.1 d.2.2) := (lm_loads x.row).2.2.2.2.2.2.2.2
  have f14 := lm_frees x.row 14
  have i1 : (f : Int) + 1 < 9223372036854775808 := by omega
  have HD : Hid (decide ((c.gap : Int) ≤ (mq : Int)) = false) := qh (by simp; omega)
  have HD2 : Hid ((f : Int) + 1 < (c.wait : Int)) := qh (by omega)
  clear x hn hf hsm
  go_enter Tryz.func55, Tryz.ntmps55
  go_wp2_with fail
  obtain ⟨w1, hw1⟩ : ∃ w1, (w.setCell ⟨q, 14, none⟩ (.int .i64 ((f : Int) + 1))).alloc zeroOut = w1 := ⟨_, rfl⟩
  obtain ⟨b1, x1, z1⟩ := tell_start HX.out ((f : Int) + 1) w1 hw1
  unfold zeroOut at hw1
  rw [hw1]
  have HX1 := qh x1
  have HZ1 := qh z1
  clear hw1 x1 z1 l14 l16 f14
  have HQ : Hid (∀ n : Nat, Calls Tryz.prog 97 #[.pointer (some ⟨q, 0, none⟩)] (w1.drewN n) fun e w' => e = .returned (.bool false) ∧ ∃ m, w' = (w1.drewN n).drewN m) := qh (fun n => by
    have := quiet8_any q c _ _ _ _ a h k d (w1.drewN n) (HX1.out.below (drewN_below (Below.refl _ _) n)).row
    rw [HD.out] at this
    exact this)
  have i2 := HD2.out
  obtain ⟨l0, l1, l2, l3, l4, l5, l6, l7, l8⟩ := lm_loads HX1.out.row
  go_quiet (first | (go_at_call 97; refine Calls.quiet_of (HQ.out _)) | fail)
  clear l0 l1 l2 l3 l4 l5 l6 l7 l8 i2
  have b2 := b1.drewN nq
  have hbd : Below w1.heap.size w1 (w1.drewN nq) := drewN_below (Below.refl _ _) nq
  have HX2 := qh (HX1.out.below hbd)
  have HZ2 := qh (row_later HZ1.out hbd)
  clear hbd
  generalize w1.drewN nq = w2 at *
  have hzz := row_but HZ2.out (But.refl [q] w2) (by rw [List.mem_singleton]; omega)
  unfold zeroOut at hzz
  obtain ⟨⟨o0, o1, o2, o3, o4⟩, y0, y1, y2, y3, y4⟩ := row_five8 hzz
  have hltz := row_lt hzz
  clear hzz
  go_wp2_with fail
  obtain ⟨wz, hwz⟩ : ∃ wz, (((((w2.setCell ⟨w.heap.size, 0, none⟩ (.int .i64 0)).setCell ⟨w.heap.size, 1, none⟩ (.int .i64 0)).setCell ⟨w.heap.size, 2, none⟩ (.slice none 0 0)).setCell ⟨w.heap.size, 3, none⟩ (.slice none 0 0)).setCell ⟨w.heap.size, 4, none⟩ (.slice none 0 0)) = wz := ⟨_, rfl⟩
  obtain ⟨hy8, hm8, hb8, hr8⟩ := out_put b2 (But.refl [q] w2) (zq _) hqlt HZ2.out hSz (AnsIn.zero w2) (show LMAt w2 _ q D c ⟨mq, .wants (f + 1) t a⟩ from ⟨1, t, ((f + 1 : Nat) : Int), a, h, k, d, b, HX2.out, hq, rfl, rfl, rfl, rfl⟩) hSq hSD _ _ _ _ _ wz hwz
  have HFIN : Hid (LTellPost S q D c w (⟨mq, .wants (f + 1) t a⟩, [], .none) (.returned (.tuple #[.slice none 0 0, outV 0 0 (none, 0, 0) (none, 0, 0) (none, 0, 0)])) wz) := qh ⟨none, 0, 0, 0, (none, 0, 0), (none, 0, 0), (none, 0, 0), rfl, rfl, ⟨rfl, zq _, Nat.zero_le _, Lies.nil _ _, AnsIn.zero _⟩, hm8, hb8⟩
  rw [hwz]
  clear hwz o0 o1 o2 o3 o4 y0 y1 y2 y3 y4 hy8 hm8 hb8
  obtain ⟨⟨o0, o1, o2, o3, o4⟩, -⟩ := row_five8 hr8
  refine bodyPost_ret_by (v := .tuple #[.slice none 0 0, .agg #[.int .i64 0, .int .i64 0, .slice none 0 0, .slice none 0 0, .slice none 0 0]]) (by simp [results, Tryz.f55, go_sem, o0, o1, o2, o3, o4]) rfl ?_
  exact HFIN.out

set_option maxRecDepth 100000 in
set_option maxHeartbeats 4000000 in
theorem send8_quiet (S : Nat → Prop) (q D : Nat) (c : Cfg) (mq f t : Nat) (a : Ask) (h k d : Hd) (b : List UInt8) (w : World) (x : LMRaw w q D S c 1 t f mq a h k d b) (_hq : mq ≤ c.gap) (hc : Ms.right c = true) (hn : c.gap ≤ mq) (hf : f < c.wait) (ht : t < c.tries) :
    Calls Tryz.prog 55 #[.pointer (some ⟨q, 0, none⟩)] w (LTellPost S q D c w (⟨0, .waits 0 (t + 1) a []⟩, Ms.sent c a, .none)) := by
  have hsm := cfg_small hc
  have hqlt := row_lt x.row
  have hSz := x.lt
  have hSq := x.sq
  have hSD := x.sD
  have HX := qh x
  have l14 : w.cell? ⟨q, 14, none⟩ = some (.int .i64 f) := (lm_loads x.row).2.2.2.2.2.2.1
  have l16 : w.cell? ⟨q, 16, none⟩ = some (.slice d.1 d.2.1 d.2.2) := (lm_loads x.row).2.2.2.2.2.2.2.2
  have f14 := lm_frees x.row 14
  have i1 : (f : Int) + 1 < 9223372036854775808 := by omega
  have i3 : (t : Int) + 1 < 9223372036854775808 := by omega
  have HD : Hid (decide ((c.gap : Int) ≤ (mq : Int)) = true) := qh (by simp; omega)
  clear x hn hf hsm ht
  go_enter Tryz.func55, Tryz.ntmps55
  go_wp2_with fail
  obtain ⟨w1, hw1⟩ : ∃ w1, (w.setCell ⟨q, 14, none⟩ (.int .i64 ((f : Int) + 1))).alloc zeroOut = w1 := ⟨_, rfl⟩
  obtain ⟨b1, x1, z1⟩ := tell_start HX.out ((f : Int) + 1) w1 hw1
  unfold zeroOut at hw1
  rw [hw1]
  have HX1 := qh x1
  have HZ1 := qh z1
  clear hw1 x1 z1 l14 l16 f14
  have HQ : Hid (∀ n : Nat, Calls Tryz.prog 97 #[.pointer (some ⟨q, 0, none⟩)] (w1.drewN n) fun e w' => e = .returned (.bool true) ∧ ∃ m, w' = (w1.drewN n).drewN m) := qh (fun n => by
    have := quiet8_any q c _ _ _ _ a h k d (w1.drewN n) (HX1.out.below (drewN_below (Below.refl _ _) n)).row
    rw [HD.out] at this
    exact this)
  obtain ⟨l0, l1, l2, l3, l4, l5, l6, l7, l8⟩ := lm_loads HX1.out.row
  go_quiet (first | (go_at_call 97; refine Calls.quiet_of (HQ.out _)) | fail)
  clear l0 l1 l2 l3 l4 l5 l6 l7 l8
  have b2 := b1.drewN nq
  have hbd : Below w1.heap.size w1 (w1.drewN nq) := drewN_below (Below.refl _ _) nq
  have HX2 := qh (HX1.out.below hbd)
  have HZ2 := qh (row_later HZ1.out hbd)
  clear hbd
  generalize w1.drewN nq = w2 at *
  obtain ⟨l0, l1, l2, l3, l4, l5, l6, l7, l8⟩ := lm_loads HX2.out.row
  have f13 := lm_frees HX2.out.row 13
  have f15 := lm_frees HX2.out.row 15
  have hr2 := (lm_set ((lm_set HX2.out.row).1 ((t : Int) + 1))).2.2 0
  have b23 : But [q] w2 ((w2.setCell ⟨q, 13, none⟩ (.int .i64 ((t : Int) + 1))).setCell ⟨q, 15, none⟩ (.int .i64 0)) := (But.one w2 q 13 _).setCell (p := ⟨q, 15, none⟩) (.inl (List.mem_singleton.2 rfl)) _
  have HT := qh (turn8_any 2 q c 1 ((t : Int) + 1) ((f : Int) + 1) 0 a h k d _ hr2)
  have HB23 := qh b23
  clear hr2 b23
  go_wp2_with fail
  refine HT.out.mono ?_
  rintro e w3 ⟨rfl, hb3, hr3⟩
  have b33 := HB23.out.trans hb3
  have b3 := b2.trans b33
  have HX3 := qh (HX2.out.fresh b33 hr3)
  have HZ3 := qh (row_but HZ2.out b33 (by rw [List.mem_singleton]; omega))
  have HF := qh (frame8_any q D (fun g => S g ∨ g = w.heap.size) c 2 ((t : Int) + 1) 0 0 a h k (none, 0, 0) [] w3 HX3.out)
  clear l0 l1 l2 l3 l4 l5 l6 l7 l8 f13 f15 HT hb3 hr3 b33
  go_wp2_with fail
  refine HF.out.mono ?_
  rintro e w4 ⟨A4, n4, k4, rfl, hn4, hown4, hb4⟩
  have b4 := b3.then_below hb4
  have HX4 := qh (HX3.out.below hb4)
  have HZ4 := qh (row_later HZ3.out hb4)
  have HL4 := qh (own_at hown4)
  have HN4 := qh (fun g hg => (hown4.lt g hg).1)
  have hs4 : w.heap.size < w3.heap.size := row_lt HZ3.out
  clear hown4 hb4 HF
  have hzz := row_but HZ4.out (But.refl [q] w4) (by rw [List.mem_singleton]; omega)
  unfold zeroOut at hzz
  obtain ⟨⟨o0, o1, o2, o3, o4⟩, y0, y1, y2, y3, y4⟩ := row_five8 hzz
  have hltz := row_lt hzz
  clear hzz
  go_wp2_with fail
  obtain ⟨wz, hwz⟩ : ∃ wz, (((((w4.setCell ⟨w.heap.size, 0, none⟩ (.int .i64 0)).setCell ⟨w.heap.size, 1, none⟩ (.int .i64 0)).setCell ⟨w.heap.size, 2, none⟩ (.slice none 0 0)).setCell ⟨w.heap.size, 3, none⟩ (.slice none 0 0)).setCell ⟨w.heap.size, 4, none⟩ (.slice none 0 0)) = wz := ⟨_, rfl⟩
  have hbut4 : But [w.heap.size] w4 wz := by rw [← hwz]; exact (((((But.refl [w.heap.size] w4).setCell (p := ⟨w.heap.size, 0, none⟩) (.inl (List.mem_singleton.2 rfl)) _).setCell (p := ⟨w.heap.size, 1, none⟩) (.inl (List.mem_singleton.2 rfl)) _).setCell (p := ⟨w.heap.size, 2, none⟩) (.inl (List.mem_singleton.2 rfl)) _).setCell (p := ⟨w.heap.size, 3, none⟩) (.inl (List.mem_singleton.2 rfl)) _).setCell (p := ⟨w.heap.size, 4, none⟩) (.inl (List.mem_singleton.2 rfl)) _
  obtain ⟨hy8, hm8, hb8, hr8⟩ := out_put b4 (But.refl [q] w4) (zq _) hqlt HZ4.out hSz (AnsIn.zero w4) (show LMAt w4 _ q D c ⟨0, .waits 0 (t + 1) a []⟩ from ⟨2, ((t + 1 : Nat) : Int), 0, a, h, k, (none, 0, 0), [], HX4.out, Nat.zero_le _, rfl, rfl, rfl, rfl, rfl⟩) hSq hSD _ _ _ _ _ wz hwz
  have hl4 := HL4.out.2.2.2.but hbut4 (fun g o s e _ hm => by
    subst e
    have h1 := HN4.out g rfl
    have h2 := List.mem_singleton.1 hm
    omega)
  have HFIN : Hid (LTellPost S q D c w (⟨0, .waits 0 (t + 1) a []⟩, Ms.sent c a, .none) (.returned (.tuple #[.slice A4 n4 k4, outV 0 0 (none, 0, 0) (none, 0, 0) (none, 0, 0)])) wz) := qh ⟨A4, n4, k4, 0, (none, 0, 0), (none, 0, 0), (none, 0, 0), rfl, rfl, ⟨hn4, HL4.out.1, HL4.out.2.1, hl4, AnsIn.zero _⟩, hm8, hb8⟩
  clear hl4
  rw [hwz]
  clear hwz o0 o1 o2 o3 o4 y0 y1 y2 y3 y4 hy8 hm8 hb8
  obtain ⟨⟨o0, o1, o2, o3, o4⟩, -⟩ := row_five8 hr8
  refine bodyPost_ret_by (v := .tuple #[.slice A4 n4 k4, .agg #[.int .i64 0, .int .i64 0, .slice none 0 0, .slice none 0 0, .slice none 0 0]]) (by simp [results, Tryz.f55, go_sem, o0, o1, o2, o3, o4]) rfl ?_
  exact HFIN.out

set_option maxRecDepth 100000 in
set_option maxHeartbeats 4000000 in
theorem send8_loud (S : Nat → Prop) (q D : Nat) (c : Cfg) (mq f t : Nat) (a : Ask) (h k d : Hd) (b : List UInt8) (w : World) (x : LMRaw w q D S c 1 t f mq a h k d b) (_hq : mq ≤ c.gap) (hc : Ms.right c = true) (hn : ¬ c.gap ≤ mq) (hf : f < c.wait) (hw : c.wait ≤ f + 1) (ht : t < c.tries) :
    Calls Tryz.prog 55 #[.pointer (some ⟨q, 0, none⟩)] w (LTellPost S q D c w (⟨0, .waits 0 (t + 1) a []⟩, Ms.sent c a, .none)) := by
  have hsm := cfg_small hc
  have hqlt := row_lt x.row
  have hSz := x.lt
  have hSq := x.sq
  have hSD := x.sD
  have HX := qh x
  have l14 : w.cell? ⟨q, 14, none⟩ = some (.int .i64 f) := (lm_loads x.row).2.2.2.2.2.2.1
  have l16 : w.cell? ⟨q, 16, none⟩ = some (.slice d.1 d.2.1 d.2.2) := (lm_loads x.row).2.2.2.2.2.2.2.2
  have f14 := lm_frees x.row 14
  have i1 : (f : Int) + 1 < 9223372036854775808 := by omega
  have i3 : (t : Int) + 1 < 9223372036854775808 := by omega
  have HD : Hid (decide ((c.gap : Int) ≤ (mq : Int)) = false) := qh (by simp; omega)
  have HD2 : Hid (decide ((f : Int) + 1 < (c.wait : Int)) = false) := qh (by simp; omega)
  clear x hn hf hsm hw ht
  go_enter Tryz.func55, Tryz.ntmps55
  go_wp2_with fail
  obtain ⟨w1, hw1⟩ : ∃ w1, (w.setCell ⟨q, 14, none⟩ (.int .i64 ((f : Int) + 1))).alloc zeroOut = w1 := ⟨_, rfl⟩
  obtain ⟨b1, x1, z1⟩ := tell_start HX.out ((f : Int) + 1) w1 hw1
  unfold zeroOut at hw1
  rw [hw1]
  have HX1 := qh x1
  have HZ1 := qh z1
  clear hw1 x1 z1 l14 l16 f14
  have HQ : Hid (∀ n : Nat, Calls Tryz.prog 97 #[.pointer (some ⟨q, 0, none⟩)] (w1.drewN n) fun e w' => e = .returned (.bool false) ∧ ∃ m, w' = (w1.drewN n).drewN m) := qh (fun n => by
    have := quiet8_any q c _ _ _ _ a h k d (w1.drewN n) (HX1.out.below (drewN_below (Below.refl _ _) n)).row
    rw [HD.out] at this
    exact this)
  have hd := HD2.out
  obtain ⟨l0, l1, l2, l3, l4, l5, l6, l7, l8⟩ := lm_loads HX1.out.row
  go_quiet (first | (go_at_call 97; refine Calls.quiet_of (HQ.out _)) | fail)
  clear hd
  clear l0 l1 l2 l3 l4 l5 l6 l7 l8
  have b2 := b1.drewN nq
  have hbd : Below w1.heap.size w1 (w1.drewN nq) := drewN_below (Below.refl _ _) nq
  have HX2 := qh (HX1.out.below hbd)
  have HZ2 := qh (row_later HZ1.out hbd)
  clear hbd
  generalize w1.drewN nq = w2 at *
  obtain ⟨l0, l1, l2, l3, l4, l5, l6, l7, l8⟩ := lm_loads HX2.out.row
  have f13 := lm_frees HX2.out.row 13
  have f15 := lm_frees HX2.out.row 15
  have hr2 := (lm_set ((lm_set HX2.out.row).1 ((t : Int) + 1))).2.2 0
  have b23 : But [q] w2 ((w2.setCell ⟨q, 13, none⟩ (.int .i64 ((t : Int) + 1))).setCell ⟨q, 15, none⟩ (.int .i64 0)) := (But.one w2 q 13 _).setCell (p := ⟨q, 15, none⟩) (.inl (List.mem_singleton.2 rfl)) _
  have HT := qh (turn8_any 2 q c 1 ((t : Int) + 1) ((f : Int) + 1) 0 a h k d _ hr2)
  have HB23 := qh b23
  clear hr2 b23
  go_wp2_with fail
  refine HT.out.mono ?_
  rintro e w3 ⟨rfl, hb3, hr3⟩
  have b33 := HB23.out.trans hb3
  have b3 := b2.trans b33
  have HX3 := qh (HX2.out.fresh b33 hr3)
  have HZ3 := qh (row_but HZ2.out b33 (by rw [List.mem_singleton]; omega))
  have HF := qh (frame8_any q D (fun g => S g ∨ g = w.heap.size) c 2 ((t : Int) + 1) 0 0 a h k (none, 0, 0) [] w3 HX3.out)
  clear l0 l1 l2 l3 l4 l5 l6 l7 l8 f13 f15 HT hb3 hr3 b33
  go_wp2_with fail
  refine HF.out.mono ?_
  rintro e w4 ⟨A4, n4, k4, rfl, hn4, hown4, hb4⟩
  have b4 := b3.then_below hb4
  have HX4 := qh (HX3.out.below hb4)
  have HZ4 := qh (row_later HZ3.out hb4)
  have HL4 := qh (own_at hown4)
  have HN4 := qh (fun g hg => (hown4.lt g hg).1)
  have hs4 : w.heap.size < w3.heap.size := row_lt HZ3.out
  clear hown4 hb4 HF
  have hzz := row_but HZ4.out (But.refl [q] w4) (by rw [List.mem_singleton]; omega)
  unfold zeroOut at hzz
  obtain ⟨⟨o0, o1, o2, o3, o4⟩, y0, y1, y2, y3, y4⟩ := row_five8 hzz
  have hltz := row_lt hzz
  clear hzz
  go_wp2_with fail
  obtain ⟨wz, hwz⟩ : ∃ wz, (((((w4.setCell ⟨w.heap.size, 0, none⟩ (.int .i64 0)).setCell ⟨w.heap.size, 1, none⟩ (.int .i64 0)).setCell ⟨w.heap.size, 2, none⟩ (.slice none 0 0)).setCell ⟨w.heap.size, 3, none⟩ (.slice none 0 0)).setCell ⟨w.heap.size, 4, none⟩ (.slice none 0 0)) = wz := ⟨_, rfl⟩
  have hbut4 : But [w.heap.size] w4 wz := by rw [← hwz]; exact (((((But.refl [w.heap.size] w4).setCell (p := ⟨w.heap.size, 0, none⟩) (.inl (List.mem_singleton.2 rfl)) _).setCell (p := ⟨w.heap.size, 1, none⟩) (.inl (List.mem_singleton.2 rfl)) _).setCell (p := ⟨w.heap.size, 2, none⟩) (.inl (List.mem_singleton.2 rfl)) _).setCell (p := ⟨w.heap.size, 3, none⟩) (.inl (List.mem_singleton.2 rfl)) _).setCell (p := ⟨w.heap.size, 4, none⟩) (.inl (List.mem_singleton.2 rfl)) _
  obtain ⟨hy8, hm8, hb8, hr8⟩ := out_put b4 (But.refl [q] w4) (zq _) hqlt HZ4.out hSz (AnsIn.zero w4) (show LMAt w4 _ q D c ⟨0, .waits 0 (t + 1) a []⟩ from ⟨2, ((t + 1 : Nat) : Int), 0, a, h, k, (none, 0, 0), [], HX4.out, Nat.zero_le _, rfl, rfl, rfl, rfl, rfl⟩) hSq hSD _ _ _ _ _ wz hwz
  have hl4 := HL4.out.2.2.2.but hbut4 (fun g o s e _ hm => by
    subst e
    have h1 := HN4.out g rfl
    have h2 := List.mem_singleton.1 hm
    omega)
  have HFIN : Hid (LTellPost S q D c w (⟨0, .waits 0 (t + 1) a []⟩, Ms.sent c a, .none) (.returned (.tuple #[.slice A4 n4 k4, outV 0 0 (none, 0, 0) (none, 0, 0) (none, 0, 0)])) wz) := qh ⟨A4, n4, k4, 0, (none, 0, 0), (none, 0, 0), (none, 0, 0), rfl, rfl, ⟨hn4, HL4.out.1, HL4.out.2.1, hl4, AnsIn.zero _⟩, hm8, hb8⟩
  clear hl4
  rw [hwz]
  clear hwz o0 o1 o2 o3 o4 y0 y1 y2 y3 y4 hy8 hm8 hb8
  obtain ⟨⟨o0, o1, o2, o3, o4⟩, -⟩ := row_five8 hr8
  refine bodyPost_ret_by (v := .tuple #[.slice A4 n4 k4, .agg #[.int .i64 0, .int .i64 0, .slice none 0 0, .slice none 0 0, .slice none 0 0]]) (by simp [results, Tryz.f55, go_sem, o0, o1, o2, o3, o4]) rfl ?_
  exact HFIN.out

theorem send8_any (S : Nat → Prop) (q D : Nat) (c : Cfg) (mq f t : Nat) (a : Ask) (h k d : Hd) (b : List UInt8) (w : World) (x : LMRaw w q D S c 1 t f mq a h k d b) (hq : mq ≤ c.gap) (hc : Ms.right c = true) (hf : f < c.wait) (ht : t < c.tries) :
    Calls Tryz.prog 55 #[.pointer (some ⟨q, 0, none⟩)] w (LTellPost S q D c w (Ms.tickSt c mq (.wants f t a))) := by
  unfold Ms.tickSt
  dsimp only
  by_cases hn : mq < c.gap
  · by_cases hw : f + 1 < c.wait
    · rw [if_pos ⟨hn, hw⟩]
      exact send8_not S q D c mq f t a h k d b w x hq hc hn hw
    · rw [if_neg (fun hh => hw hh.2)]
      exact send8_loud S q D c mq f t a h k d b w x hq hc (by omega) hf (by omega) ht
  · rw [if_neg (fun hh => hn hh.1)]
    exact send8_quiet S q D c mq f t a h k d b w x hq hc (by omega) hf ht

end Go.Proofs.YtlgmjnjhdamknaaGreat
