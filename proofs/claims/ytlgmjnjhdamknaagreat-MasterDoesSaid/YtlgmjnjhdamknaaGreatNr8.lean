
/- A part of the proof of the law MasterDoes. -/
import Derived.Test.YtlgmjnjhdamknaaGreatMem
import Derived.Test.YtlgmjnjhdamknaaGreatMr8
namespace Go.Proofs.YtlgmjnjhdamknaaGreat
open Go.RowKit

def LOutPost (S : Nat → Prop) (q D : Nat) (c : Cfg) (w : World) (m : Mst) (o : MOut) (e : Ending) (w' : World) : Prop :=
  ∃ (xe : Int) (h k t : Hd), e = .returned (outV ((Ms.kind o : Nat) : Int) xe h k t) ∧ (Ms.ans o).exc = xe ∧ AnsIn w' (Ms.ans o) h k t ∧ LMAt w' S q D c m ∧ But [q] w w'
theorem fail8_any (S : Nat → Prop) (q D : Nat) (c : Cfg) (mq t : Nat) (tk : Int) (a : Ask) (h k d : Hd) (b : List UInt8) (w : World) (o : MOut) (ho : o = .silent ∨ o = .garbled) (x : LMRaw w q D S c 2 t tk mq a h k d b) (hq : mq ≤ c.gap) :
    Calls Tryz.prog 100 #[.pointer (some ⟨q, 0, none⟩), .int .i64 ((Ms.kind o : Nat) : Int)] w (LOutPost S q D c w (Ms.fail c mq t a o).1 (Ms.fail c mq t a o).2.2) := by
  have ha : Ms.ans o = An.zero := by rcases ho with rfl | rfl <;> rfl
  unfold Ms.fail
  by_cases ht : t < c.tries
  · rw [if_pos ht]
    refine (fail8_again _ q c 2 t tk mq a h k d w x.row (by omega)).mono ?_
    rintro e w' ⟨rfl, hb, hr⟩
    exact ⟨0, (none, 0, 0), (none, 0, 0), (none, 0, 0), rfl, rfl, AnsIn.zero _, ⟨1, t, 0, a, h, k, (none, 0, 0), [], x.fresh hb hr, hq, rfl, rfl, rfl, rfl⟩, hb⟩
  · rw [if_neg ht]
    refine (fail8_over _ q c 2 t tk mq a h k d w x.row (by omega)).mono ?_
    rintro e w' ⟨rfl, hb, hr⟩
    refine ⟨0, (none, 0, 0), (none, 0, 0), (none, 0, 0), rfl, by rw [ha]; rfl, by rw [ha]; exact AnsIn.zero _, ⟨0, t, 0, Ak.zero, (none, 0, 0), (none, 0, 0), (none, 0, 0), [], x.asks hb hr ⟨rfl, zq _, Nat.zero_le _, Lies.nil _ _, rfl, zq _, Nat.zero_le _, Lies.nil _ _⟩ (fun _ _ _ e => by cases e) (fun _ _ _ e => by cases e), hq, rfl⟩, hb⟩

theorem ask_safe {a : Ask} {y : Ans} (hr : Ak.right a = true) (hy : An.right a y = true) : (a.and_ = 0 ∧ a.or_ = 0) ∨ y.words = [] := by
  unfold Ak.right at hr
  rw [Bool.and_eq_true] at hr
  cases Ak.shape hr.1 with
  | mask addr x y' h0 h1 =>
    right
    cases An.shape hy with
    | words l hc =>
      exfalso
      have hc : (22 : Int) = 3 ∨ (22 : Int) = 4 ∨ (22 : Int) = 23 := hc
      omega
    | _ => rfl
  | _ => exact .inl ⟨rfl, rfl⟩
theorem AnsIn.over8 {w w' : World} {q : Nat} {c : Cfg} {st tr tk sl st' tr' tk' sl' : Int} {a : Ask} {h k d h' k' d' : Hd} {t t' : TypeId} {y : Ans} {xh xk xt : Hd} (i : AnsIn w y xh xk xt) (hb : But [q] w w') (x : w.heap[q]? = some (.cells (lmCells c st tr tk sl a h k d) t (0, 0))) (z : w'.heap[q]? = some (.cells (lmCells c st' tr' tk' sl' Ak.zero h' k' d') t' (0, 0)))
    (hs : (a.and_ = 0 ∧ a.or_ = 0) ∨ y.words = []) : AnsIn w' y xh xk xt := by
  rcases hs with hs | hs
  · exact i.kept (lm_kept hb x z hs.1 hs.2)
  · refine i.but hb (far_row x i.hl fun b j v hv => ?_) (fun b o s e h0 => by rw [hs] at h0; cases h0) (far_row x i.tl fun b j v hv => ?_)
    all_goals (
      rintro rfl
      match j, hv with
      | 0, hv | 1, hv | 2, hv | 3, hv | 4, hv | 5, hv | 6, hv | 7, hv | 8, hv | 9, hv | 10, hv | 11, hv | 12, hv | 13, hv | 14, hv | 15, hv | 16, hv => simp [lmCells] at hv
      | n + 17, hv => simp [lmCells] at hv)

theorem LMRaw.widen {w w' : World} {q D : Nat} {S S' : Nat → Prop} {c : Cfg} {st tr tk sl : Int} {a : Ask} {h k d : Hd} {b : List UInt8} (x : LMRaw w q D S c st tr tk sl a h k d b) (hb : Below w.heap.size w w')
    (h1 : S' q) (h1' : S' D) (h2 : ∀ g, S' g → S g ∨ w.heap.size ≤ g) (h3 : ∀ g, S' g → g < w'.heap.size) : LMRaw w' q D S' c st tr tk sl a h k d b := by
  have y := x.below hb
  refine ⟨y.row, y.ins, y.own, y.dm, h1, h1', h3, fun g o s e h0 hS => ?_, fun g o s e h0 hS => ?_, y.fd⟩
  · rcases h2 g hS with h4 | h4
    · exact x.fh g o s e h0 h4
    · exact absurd (lies_old x.ins.hl g o s e (by rw [x.ins.hn]; exact h0)) (by omega)
  · rcases h2 g hS with h4 | h4
    · exact x.fk g o s e h0 h4
    · exact absurd (lies_old x.ins.kl g o s e (by rw [x.ins.kn]; exact h0)) (by omega)
theorem LMRaw.narrow {w : World} {q D : Nat} {S S' : Nat → Prop} {c : Cfg} {st tr tk sl : Int} {a : Ask} {h k d : Hd} {b : List UInt8} (x : LMRaw w q D S' c st tr tk sl a h k d b) (hS : ∀ g, S g → S' g) (hq : S q) (hD : S D) : LMRaw w q D S c st tr tk sl a h k d b :=
  ⟨x.row, x.ins, x.own, x.dm, hq, hD, fun g hg => x.lt g (hS g hg), fun g o s e h0 hg => x.fh g o s e h0 (hS g hg), fun g o s e h0 hg => x.fk g o s e h0 (hS g hg), x.fd⟩
theorem LMAt.narrow {w : World} {S S' : Nat → Prop} {q D : Nat} {c : Cfg} {m : Mst} (x : LMAt w S' q D c m) (hS : ∀ g, S g → S' g) (hq : S q) (hD : S D) : LMAt w S q D c m := by
  obtain ⟨st, tr, tk, a, h, k, d, b, hr, h1, h2⟩ := x
  exact ⟨st, tr, tk, a, h, k, d, b, hr.narrow hS hq hD, h1, h2⟩
theorem far_out {w : World} {g : Nat} {α : Type} {f : α → Value} (hf : ∀ x, plainV (f x) = true) {A : Option Addr} {l : List α} (hg : w.heap[g]? = some zeroOut) (h : Lies f w A l) : ∀ b o s, A = some ⟨b, o, s⟩ → 0 < l.length → b ∉ [g] := by
  refine far_row hg h fun x i v hv e => ?_

  have hp : plainV v = true := by rw [← e]; exact hf x
  match i, hv with
  | 0, hv | 1, hv | 2, hv | 3, hv | 4, hv =>
    simp at hv
    subst hv
    simp [plainV] at hp
  | n + 5, hv => simp at hv
theorem out_put {S : Nat → Prop} {q D g : Nat} {c : Cfg} {w w1 w5 : World} {m : Mst} {y : Ans} {yh yk yt : Hd} (hb1 : But [q] w w1) (hb5 : But [q] w1 w5) (hg : w.heap.size ≤ g) (hq : q < w.heap.size) (hz : w1.heap[g]? = some zeroOut) (hS : ∀ x, S x → x < w.heap.size)
    (hx : AnsIn w5 y yh yk yt) (hm : LMAt w5 (fun x => S x ∨ x = g) q D c m) (hSq : S q) (hSD : S D) (v0 v1 v2 v3 v4 : Value) (W : World) (hW : (((((w5.setCell ⟨g, 0, none⟩ v0).setCell ⟨g, 1, none⟩ v1).setCell ⟨g, 2, none⟩ v2).setCell ⟨g, 3, none⟩ v3).setCell ⟨g, 4, none⟩ v4) = W) :
    AnsIn W y yh yk yt ∧ LMAt W S q D c m ∧ But [q] w W ∧ W.heap[g]? = some (.cells #[v0, v1, v2, v3, v4] 48 (0, 0)) := by
  have hz5 : w5.heap[g]? = some zeroOut := row_but hz hb5 (by rw [List.mem_singleton]; omega)
  obtain ⟨hr, hbb⟩ := stored_five8 hz5 v0 v1 v2 v3 v4 W hW
  have hg1 : But [g] w5 W := hbb [g] w5 (But.refl _ _) (.inl (List.mem_singleton.2 rfl))
  refine ⟨hx.but hg1 (far_out (fun _ => rfl) hz5 hx.hl) (far_out (fun _ => rfl) hz5 hx.kl) (far_out (fun _ => rfl) hz5 hx.tl), ?_, hbb [q] w (hb1.trans hb5) (.inr hg), hr⟩
  have hD := hS D hSD
  exact (hm.but hg1 (fun x hx => .inr (List.mem_singleton.1 hx)) (by rw [List.mem_singleton]; omega) (by rw [List.mem_singleton]; omega)).narrow (fun x hx => .inl hx) hSq hSD

def LReadNo (w : World) (e : Ending) (w' : World) : Prop :=
  ∃ (xe : Int) (xh xk xt : Hd), e = .returned (.tuple #[.agg #[.int .i64 xe, .slice xh.1 xh.2.1 xh.2.2, .slice xk.1 xk.2.1 xk.2.2, .slice xt.1 xt.2.1 xt.2.2], .bool false]) ∧ Below w.heap.size w w'
def LReadYes (w : World) (y : Ans) (e : Ending) (w' : World) : Prop :=
  ∃ (xe : Int) (xh xk xt : Hd), e = .returned (.tuple #[.agg #[.int .i64 xe, .slice xh.1 xh.2.1 xh.2.2, .slice xk.1 xk.2.1 xk.2.2, .slice xt.1 xt.2.1 xt.2.2], .bool true]) ∧ y.exc = xe ∧ AnsIn w' y xh xk xt ∧ Below w.heap.size w w'

set_option maxRecDepth 100000 in
set_option maxHeartbeats 1000000 in
theorem heard8_no (S : Nat → Prop) (q D : Nat) (c : Cfg) (mq t : Nat) (tk : Int) (a : Ask) (h k d : Hd) (b : List UInt8) (w : World) (x : LMRaw w q D S c 2 t tk mq a h k d b) (hq : mq ≤ c.gap) (hh : Ms.heard c a b = none) :
    Calls Tryz.prog 99 #[.pointer (some ⟨q, 0, none⟩)] w (LOutPost S q D c w (Ms.fail c mq t a .garbled).1 (Ms.fail c mq t a .garbled).2.2) := by
  have hqlt := row_lt x.row
  have hz := row_at w #[.int .i64 0, .int .i64 0, .slice none 0 0, .slice none 0 0, .slice none 0 0] 48 w.heap.size rfl
  have hb0 : Below w.heap.size w (w.alloc zeroOut) := (Below.refl _ _).alloc (zq _) _
  have hSz := x.lt
  have hSq := x.sq
  have hSD := x.sD
  have x1 := x.widen (S' := fun g => S g ∨ g = w.heap.size) hb0 (.inl x.sq) (.inl x.sD) (fun g hg => hg.imp id (fun e => Nat.le_of_eq e.symm)) (fun g hg => by
    rcases hg with hg | rfl
    · exact Nat.lt_of_lt_of_le (x.lt g hg) hb0.size
    · exact row_lt hz)
  have HRD : Hid (Calls Tryz.prog 143 #[.pointer (some ⟨q, 0, none⟩)] (w.alloc zeroOut) (LReadNo (w.alloc zeroOut))) := qh ((read8_any q D (fun g => S g ∨ g = w.heap.size) c 2 t tk mq a h k d b _ x1).mono fun e w' hp => by
    rw [hh] at hp
    obtain ⟨xe, xh, xk, xt, y, he, -, -, -, hb⟩ := hp
    exact ⟨xe, xh, xk, xt, he, hb⟩)
  have HX := qh x1
  have HZ := qh hz
  have HB := qh hb0
  obtain ⟨R, hR⟩ : ∃ R, Ms.fail c mq t a .garbled = R := ⟨_, rfl⟩
  have HRR := qh hR
  rw [hR]
  unfold zeroOut at HRD
  clear x x1 hz hb0 hh hR
  go_enter Tryz.func99, Tryz.ntmps99
  go_wp2_with fail
  refine HRD.out.mono ?_
  rintro e w3 ⟨xe, xh, xk, xt, rfl, hb3⟩
  have hb4 := hb3.alloc (o := .cells #[.int .i64 xe, .slice xh.1 xh.2.1 xh.2.2, .slice xk.1 xk.2.1 xk.2.2, .slice xt.1 xt.2.1 xt.2.2] 46) hb3.size
  have HX4 := qh (HX.out.below hb4)
  have HZ4 := qh (row_later HZ.out hb4)
  have HB4 := qh (HB.out.trans (hb4.mono HB.out.size))
  have HF : Hid (Calls Tryz.prog 100 #[.pointer (some ⟨q, 0, none⟩), .int .i64 3] (w3.alloc (.cells #[.int .i64 xe, .slice xh.1 xh.2.1 xh.2.2, .slice xk.1 xk.2.1 xk.2.2, .slice xt.1 xt.2.1 xt.2.2] 46)) (LOutPost (fun g => S g ∨ g = w.heap.size) q D c (w3.alloc (.cells #[.int .i64 xe, .slice xh.1 xh.2.1 xh.2.2, .slice xk.1 xk.2.1 xk.2.2, .slice xt.1 xt.2.1 xt.2.2] 46)) R.1 R.2.2)) := qh (by
    have := fail8_any (fun g => S g ∨ g = w.heap.size) q D c mq t tk a h k d b _ .garbled (.inr rfl) HX4.out hq
    rw [HRR.out] at this
    exact this)
  clear hb3 hb4 HRD
  go_wp2_with fail
  refine HF.out.mono ?_
  rintro e w5 ⟨ye, yh, yk, yt, rfl, hye, hy, hm, hb5⟩
  generalize (w3.alloc (.cells #[.int .i64 xe, .slice xh.1 xh.2.1 xh.2.2, .slice xk.1 xk.2.1 xk.2.2, .slice xt.1 xt.2.1 xt.2.2] 46)) = w4 at *
  have HY := qh hy
  have HM := qh hm
  have HYE := qh hye
  have HBZ := qh hb5
  have hz5 := row_but HZ4.out hb5 (by rw [List.mem_singleton]; omega)
  have HZ5 := qh hz5
  obtain ⟨⟨o0, o1, o2, o3, o4⟩, y0, y1, y2, y3, y4⟩ := row_five8 hz5
  have hlt5 := row_lt hz5
  obtain ⟨KK, hKK⟩ : ∃ KK : Nat, Ms.kind R.2.2 = KK := ⟨_, rfl⟩
  have HKK := qh hKK
  rw [hKK]
  clear hy hm hye hb5 hz5 hKK HF
  go_wp2_with fail
  obtain ⟨wz, hwz⟩ : ∃ wz, (((((w5.setCell ⟨w.heap.size, 0, none⟩ (.int .i64 (KK : Int))).setCell ⟨w.heap.size, 1, none⟩ (.int .i64 ye)).setCell ⟨w.heap.size, 2, none⟩ (.slice yh.1 yh.2.1 yh.2.2)).setCell ⟨w.heap.size, 3, none⟩ (.slice yk.1 yk.2.1 yk.2.2)).setCell ⟨w.heap.size, 4, none⟩ (.slice yt.1 yt.2.1 yt.2.2)) = wz := ⟨_, rfl⟩
  obtain ⟨hy8, hm8, hb8, hr8⟩ := out_put (But.of_below HB4.out (zq _) [q]) HBZ.out (zq _) hqlt HZ4.out hSz HY.out HM.out hSq hSD _ _ _ _ _ wz hwz
  have HFIN : Hid (LOutPost S q D c w R.1 R.2.2 (.returned (outV (KK : Int) ye yh yk yt)) wz) := qh ⟨ye, yh, yk, yt, by rw [HKK.out], HYE.out, hy8, hm8, hb8⟩
  rw [hwz]
  clear hwz o0 o1 o2 o3 o4 y0 y1 y2 y3 y4 hy8 hm8 hb8
  obtain ⟨⟨o0, o1, o2, o3, o4⟩, -⟩ := row_five8 hr8
  refine bodyPost_ret_by (v := outV (KK : Int) ye yh yk yt) (by simp [results, Tryz.f99, go_sem, o0, o1, o2, o3, o4]) rfl ?_
  exact HFIN.out

set_option maxRecDepth 100000 in
set_option maxHeartbeats 1000000 in
theorem heard8_yes (S : Nat → Prop) (q D : Nat) (c : Cfg) (mq t : Nat) (tk : Int) (a : Ask) (h k d : Hd) (b : List UInt8) (w : World) (x : LMRaw w q D S c 2 t tk mq a h k d b) (hq : mq ≤ c.gap) (hka : Ak.right a = true) (y : Ans) (hh : Ms.heard c a b = some y) :
    Calls Tryz.prog 99 #[.pointer (some ⟨q, 0, none⟩)] w (LOutPost S q D c w ⟨mq, .idle⟩ (.done y)) := by
  have hqlt := row_lt x.row
  have hz := row_at w #[.int .i64 0, .int .i64 0, .slice none 0 0, .slice none 0 0, .slice none 0 0] 48 w.heap.size rfl
  have hb0 : Below w.heap.size w (w.alloc zeroOut) := (Below.refl _ _).alloc (zq _) _
  have hSz := x.lt
  have hSq := x.sq
  have hSD := x.sD
  have x1 := x.widen (S' := fun g => S g ∨ g = w.heap.size) hb0 (.inl x.sq) (.inl x.sD) (fun g hg => hg.imp id (fun e => Nat.le_of_eq e.symm)) (fun g hg => by
    rcases hg with hg | rfl
    · exact Nat.lt_of_lt_of_le (x.lt g hg) hb0.size
    · exact row_lt hz)
  have HRD : Hid (Calls Tryz.prog 143 #[.pointer (some ⟨q, 0, none⟩)] (w.alloc zeroOut) (LReadYes (w.alloc zeroOut) y)) := qh ((read8_any q D (fun g => S g ∨ g = w.heap.size) c 2 t tk mq a h k d b _ x1).mono fun e w' hp => by
    rw [hh] at hp
    obtain ⟨xe, xh, xk, xt, y', he, h1, h2, h3, hb⟩ := hp
    obtain rfl := h3 y rfl
    exact ⟨xe, xh, xk, xt, he, h1, h2, hb⟩)
  have HX := qh x1
  have HZ := qh hz
  have HB := qh hb0
  have HSF := qh (ask_safe hka (Ms.heard_right hh))
  unfold zeroOut at HRD
  clear x x1 hz hb0 hh
  go_enter Tryz.func99, Tryz.ntmps99
  go_wp2_with fail
  refine HRD.out.mono ?_
  rintro e w3 ⟨xe, xh, xk, xt, rfl, hxe, hx3, hb3⟩
  have hb34 : Below w3.heap.size w3 (w3.alloc (.cells #[.int .i64 xe, .slice xh.1 xh.2.1 xh.2.2, .slice xk.1 xk.2.1 xk.2.2, .slice xt.1 xt.2.1 xt.2.2] 46)) := (Below.refl _ _).alloc (zq _) _
  have hb4 := hb3.trans (hb34.mono hb3.size)
  have HX4 := qh (HX.out.below hb4)
  have HZ4 := qh (row_later HZ.out hb4)
  have HB4 := qh (HB.out.trans (hb4.mono HB.out.size))
  have HA4 := qh (hx3.below hb34)
  have HG4 := qh (row_at w3 #[.int .i64 xe, .slice xh.1 xh.2.1 xh.2.2, .slice xk.1 xk.2.1 xk.2.2, .slice xt.1 xt.2.1 xt.2.2] 46 w3.heap.size rfl)
  have HXE := qh hxe
  have hs3 := Nat.le_trans HB.out.size hb3.size
  have hw0 : w.heap.size < w3.heap.size := Nat.lt_of_lt_of_le (row_lt HZ.out) hb3.size
  have HEN := qh (end8_any q c 2 t tk mq a h k d _ HX4.out.row)
  clear hb3 hb4 HRD hx3 hxe hb34
  go_wp2_with fail
  refine HEN.out.mono ?_
  rintro e w5 ⟨rfl, hb5, hr5⟩
  generalize (w3.alloc (.cells #[.int .i64 xe, .slice xh.1 xh.2.1 xh.2.2, .slice xk.1 xk.2.1 xk.2.2, .slice xt.1 xt.2.1 xt.2.2] 46)) = w4 at *
  have HY := qh (HA4.out.over8 hb5 HX4.out.row hr5 HSF.out)
  have HM : Hid (LMAt w5 (fun g => S g ∨ g = w.heap.size) q D c ⟨mq, .idle⟩) := qh ⟨0, t, 0, Ak.zero, (none, 0, 0), (none, 0, 0), (none, 0, 0), [], HX4.out.asks hb5 hr5 ⟨rfl, zq _, Nat.zero_le _, Lies.nil _ _, rfl, zq _, Nat.zero_le _, Lies.nil _ _⟩ (fun _ _ _ e => by cases e) (fun _ _ _ e => by cases e), hq, rfl⟩
  have HBZ := qh hb5
  have hz5 := row_but HZ4.out hb5 (by rw [List.mem_singleton]; omega)
  have hg5 := row_but HG4.out hb5 (by rw [List.mem_singleton]; omega)
  obtain ⟨⟨o0, o1, o2, o3, o4⟩, y0, y1, y2, y3, y4⟩ := row_five8 hz5
  obtain ⟨p0, p1, p2, p3⟩ := row_quad hg5
  have hlt5 := row_lt hz5
  have hlg5 := row_lt hg5
  clear hb5 hz5 hg5 HEN hr5
  go_wp2_with fail
  obtain ⟨wz, hwz⟩ : ∃ wz, (((((w5.setCell ⟨w.heap.size, 0, none⟩ (.int .i64 1)).setCell ⟨w.heap.size, 1, none⟩ (.int .i64 xe)).setCell ⟨w.heap.size, 2, none⟩ (.slice xh.1 xh.2.1 xh.2.2)).setCell ⟨w.heap.size, 3, none⟩ (.slice xk.1 xk.2.1 xk.2.2)).setCell ⟨w.heap.size, 4, none⟩ (.slice xt.1 xt.2.1 xt.2.2)) = wz := ⟨_, rfl⟩
  obtain ⟨hy8, hm8, hb8, hr8⟩ := out_put (But.of_below HB4.out (zq _) [q]) HBZ.out (zq _) hqlt HZ4.out hSz HY.out HM.out hSq hSD _ _ _ _ _ wz hwz
  have HFIN : Hid (LOutPost S q D c w ⟨mq, .idle⟩ (.done y) (.returned (outV 1 xe xh xk xt)) wz) := qh ⟨xe, xh, xk, xt, rfl, HXE.out, hy8, hm8, hb8⟩
  rw [hwz]
  clear hwz o0 o1 o2 o3 o4 y0 y1 y2 y3 y4 hy8 hm8 hb8 p0 p1 p2 p3
  obtain ⟨⟨o0, o1, o2, o3, o4⟩, -⟩ := row_five8 hr8
  refine bodyPost_ret_by (v := outV 1 xe xh xk xt) (by simp [results, Tryz.f99, go_sem, o0, o1, o2, o3, o4]) rfl ?_
  exact HFIN.out

end Go.Proofs.YtlgmjnjhdamknaaGreat
