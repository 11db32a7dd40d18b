
/- A part of the proof of the law MasterDoes. -/
import Derived.Test.YtlgmjnjhdamknaaGreatMem
import Derived.Test.YtlgmjnjhdamknaaGreatCm8
import Derived.Test.YtlgmjnjhdamknaaGreatNr8
import Derived.Test.YtlgmjnjhdamknaaGreatLa
import Derived.Lib.SliceRun
import Derived.Deep.RegionLaw
import Derived.Deep.RegionWith
namespace Go.Proofs.YtlgmjnjhdamknaaGreat
open Go.RowKit

def OwnWords8 (w : World) (l : List UInt16) (e : Ending) (w' : World) : Prop :=
  ∃ A n c, e = .returned (.slice A n c) ∧ l.length = n ∧ w'.ownsRow w.heap.size 38 1 (.slice A n c) n (l.map u16v) ∧ Below w.heap.size w w'
def OwnBits8 (w : World) (l : List Bool) (e : Ending) (w' : World) : Prop :=
  ∃ A n c, e = .returned (.slice A n c) ∧ l.length = n ∧ w'.ownsRow w.heap.size 4 1 (.slice A n c) n (l.map bitv) ∧ Below w.heap.size w w'
set_option maxRecDepth 100000 in
set_option maxHeartbeats 1000000 in
theorem clone16_any (A : Option Addr) (n c : Nat) (l : List UInt16) (hn : l.length = n) (hm : n ≤ 1000000) (w : World) (h : Lies u16v w A l) :
    Calls Tryz.prog 38 #[.slice A n c] w (OwnWords8 w l) := by
  have H := qh hn
  have q : ∀ (w : World) (a : Option Addr) (n c n' c' : Nat), (binOp .eql 36 (.slice a n c) (.slice none n' c')).run Tryz.prog w = .ok (.bool a.isNone) w := fun w a n c n' c' => Lib.run_eql_slice_nil w _ _ a n c n' c' kit16.ht
  rcases A with _ | ⟨b, o, s⟩
  · have hl : l = [] := by
      rcases l with _ | ⟨y, r⟩
      · rfl
      · obtain ⟨_, _, h, _⟩ := h 0 (by simp)
        cases h
    clear hn h
    go_enter Tryz.func38, Tryz.ntmps38
    go_wp2
    go_ret
    subst hl
    exact ⟨_, _, _, rfl, rfl, World.ownsRow_nil _ _ _ _, Below.refl _ _⟩
  · clear hn
    go_enter Tryz.func38, Tryz.ntmps38
    go_wp2_with (at_builtin; go_must (refine wpList_append_lies kit16 one16 _ rfl (.tmp 5) (.tmp 6) rfl w.heap.size _ 0 [] rfl (own_lit u16v w #[] _ _ _ 0 [] rfl rfl (zq _) rfl (Nat.zero_le _)) _ n c l rfl H.out (h.alloc _) (by omega) (by unfold maxLen; omega) (by simp) ?_; intro A2 c2 w2 hown2 hg2 hb2; (try simp only [Nat.zero_add, List.nil_append] at hown2)))
    go_ret
    exact ⟨A2, n, c2, rfl, H.out, hown2, ((Below.refl _ w).alloc (zq _) _).trans hb2⟩

set_option maxRecDepth 100000 in
set_option maxHeartbeats 1000000 in
theorem clone1_any (A : Option Addr) (n c : Nat) (l : List Bool) (hn : l.length = n) (hm : n ≤ 1000000) (w : World) (h : Lies bitv w A l) :
    Calls Tryz.prog 39 #[.slice A n c] w (OwnBits8 w l) := by
  have H := qh hn
  have q : ∀ (w : World) (a : Option Addr) (n c n' c' : Nat), (binOp .eql 37 (.slice a n c) (.slice none n' c')).run Tryz.prog w = .ok (.bool a.isNone) w := fun w a n c n' c' => Lib.run_eql_slice_nil w _ _ a n c n' c' kitb.ht
  rcases A with _ | ⟨b, o, s⟩
  · have hl : l = [] := by
      rcases l with _ | ⟨y, r⟩
      · rfl
      · obtain ⟨_, _, h, _⟩ := h 0 (by simp)
        cases h
    clear hn h
    go_enter Tryz.func39, Tryz.ntmps39
    go_wp2
    go_ret
    subst hl
    exact ⟨_, _, _, rfl, rfl, World.ownsRow_nil _ _ _ _, Below.refl _ _⟩
  · clear hn
    go_enter Tryz.func39, Tryz.ntmps39
    go_wp2_with (at_builtin; go_must (refine wpList_append_lies kitb oneb _ rfl (.tmp 5) (.tmp 6) rfl w.heap.size _ 0 [] rfl (own_lit bitv w #[] _ _ _ 0 [] rfl rfl (zq _) rfl (Nat.zero_le _)) _ n c l rfl H.out (h.alloc _) (by omega) (by unfold maxLen; omega) (by simp) ?_; intro A2 c2 w2 hown2 hg2 hb2; (try simp only [Nat.zero_add, List.nil_append] at hown2)))
    go_ret
    exact ⟨A2, n, c2, rfl, H.out, hown2, ((Below.refl _ w).alloc (zq _) _).trans hb2⟩

theorem lm_put (c : Cfg) (st tr tk sl : Int) (a0 a : Ask) (h0 k0 d h k : Hd) : (((((((((lmCells c st tr tk sl a0 h0 k0 d).setIfInBounds 5 (.int .i64 a.code)).setIfInBounds 6 (.int .i64 a.addr)).setIfInBounds 7 (.int .i64 a.count)).setIfInBounds 8 (.int .i64 a.to)).setIfInBounds 9 (.slice h.1 h.2.1 h.2.2)).setIfInBounds 10 (.slice k.1 k.2.1 k.2.2)).setIfInBounds 11 (u16v a.and_)).setIfInBounds 12 (u16v a.or_)).setIfInBounds 13 (.int .i64 0) = lmCells c st 0 tk sl a h k d := by
  unfold lmCells
  simp only [List.setIfInBounds_toArray, List.set_cons_zero, List.set_cons_succ]
theorem lm_asked {w : World} {q : Nat} {c : Cfg} {st tr tk sl : Int} {a0 : Ask} {h0 k0 d : Hd} {T : TypeId} (hr : w.heap[q]? = some (.cells (lmCells c st tr tk sl a0 h0 k0 d) T (0, 0))) (a : Ask) (h k : Hd) (W : World) (hW : (((((((((w.setCell ⟨q, 5, none⟩ (.int .i64 a.code)).setCell ⟨q, 6, none⟩ (.int .i64 a.addr)).setCell ⟨q, 7, none⟩ (.int .i64 a.count)).setCell ⟨q, 8, none⟩ (.int .i64 a.to)).setCell ⟨q, 9, none⟩ (.slice h.1 h.2.1 h.2.2)).setCell ⟨q, 10, none⟩ (.slice k.1 k.2.1 k.2.2)).setCell ⟨q, 11, none⟩ (u16v a.and_)).setCell ⟨q, 12, none⟩ (u16v a.or_)).setCell ⟨q, 13, none⟩ (.int .i64 0)) = W) :
    But [q] w W ∧ W.heap[q]? = some (.cells (lmCells c st 0 tk sl a h k d) T (0, 0)) := by
  subst hW
  have hq : q ∈ [q] := List.mem_singleton.2 rfl
  have hr := row_set (i := 13) (row_set (i := 12) (row_set (i := 11) (row_set (i := 10) (row_set (i := 9) (row_set (i := 8) (row_set (i := 7) (row_set (i := 6) (row_set (i := 5) hr (.int .i64 a.code)) (.int .i64 a.addr)) (.int .i64 a.count)) (.int .i64 a.to)) (.slice h.1 h.2.1 h.2.2)) (.slice k.1 k.2.1 k.2.2)) (u16v a.and_)) (u16v a.or_)) (.int .i64 0)
  rw [lm_put] at hr
  exact ⟨(((((((((But.refl [q] w).setCell (p := ⟨q, 5, none⟩) (.inl hq) (.int .i64 a.code)).setCell (p := ⟨q, 6, none⟩) (.inl hq) (.int .i64 a.addr)).setCell (p := ⟨q, 7, none⟩) (.inl hq) (.int .i64 a.count)).setCell (p := ⟨q, 8, none⟩) (.inl hq) (.int .i64 a.to)).setCell (p := ⟨q, 9, none⟩) (.inl hq) (.slice h.1 h.2.1 h.2.2)).setCell (p := ⟨q, 10, none⟩) (.inl hq) (.slice k.1 k.2.1 k.2.2)).setCell (p := ⟨q, 11, none⟩) (.inl hq) (u16v a.and_)).setCell (p := ⟨q, 12, none⟩) (.inl hq) (u16v a.or_)).setCell (p := ⟨q, 13, none⟩) (.inl hq) (.int .i64 0), hr⟩

set_option maxRecDepth 100000 in
set_option maxHeartbeats 4000000 in
theorem start8_any (S : Nat → Prop) (q D : Nat) (c : Cfg) (m : Mst) (a : Ask) (h k : Hd) (w : World) (hM : LMAt w S q D c m) (ha : AskIn w a h k) :
    Calls Tryz.prog 16 #[.pointer (some ⟨q, 0, none⟩), askV a h k] w fun e w' => e = .returned (.int .i64 (((Ms.start m a).2 : Nat) : Int)) ∧ LMAt w' S q D c (Ms.start m a).1 ∧ But [q] w w' := by
  obtain ⟨st, tr, tk, a0, h0, k0, d, b0, x, hq, hi⟩ := hM
  have hrow := row_at w (askCells a h k) 40 w.heap.size rfl
  have hb0 : Below w.heap.size w (w.alloc (.cells (askCells a h k) 40)) := (Below.refl _ _).alloc (zq _) _
  have hqlt := row_lt x.row
  have x1 := x.below hb0
  have ha1 := ha.below hb0
  have HX := qh x
  have HX1 := qh x1
  have HA0 := qh ha
  have HI := qh hi
  have HRI := qh (right6_any a h k _ ha1)
  have HA1 := qh ha1
  have HROW := qh hrow
  have HB0 := qh hb0
  have hbusy := busy8_any q c st tr tk _ a0 h0 k0 d _ x1.row
  obtain ⟨r0, r1, r2, r3, r4, r5, r6, r7⟩ := row_eight (show (w.alloc (.cells (askCells a h k) 40)).heap[w.heap.size]? = some (.cells #[_, _, _, _, _, _, _, _] _ (0, 0)) from hrow)
  rw [askV_eq] at HRI ⊢
  unfold askCells at HRI hbusy
  by_cases h0' : st = 0
  · subst h0'
    have HBU := qh hbusy
    clear x x1 ha ha1 hi hb0 hrow hbusy
    cases hri : Ak.right a with
    | false =>
      rw [hri] at HRI
      have et : Ms.start m a = (m, 2) := by
        have hi := HI.out
        obtain ⟨mq, ms⟩ := m
        unfold Ms.start
        cases ms with
        | idle => rw [if_neg (by show ¬ ¬ (0 : Nat) = 0; decide), if_neg (by rw [hri]; decide)]
        | wants => exact absurd hi.1 (by decide)
        | waits => exact absurd hi.1 (by decide)
      rw [et]
      go_enter Tryz.func16, Tryz.ntmps16
      go_wp2_with fail
      refine HBU.out.mono ?_
      rintro e w1 ⟨rfl, rfl⟩
      go_wp2_with fail
      refine HRI.out.mono ?_
      rintro e w1 ⟨rfl, hb1⟩
      go_wp2_with fail
      go_ret
      exact ⟨rfl, ⟨0, tr, tk, a0, h0, k0, d, b0, HX1.out.below (hb1.mono (by simp)), hq, HI.out⟩, But.of_below (S := [q]) (HB0.out.trans (hb1.mono (by simp))) (zq _)⟩
    | true =>
      rw [hri] at HRI
      have et : Ms.start m a = (⟨m.quiet, .wants 0 0 a⟩, 0) := by
        have hi := HI.out
        obtain ⟨mq, ms⟩ := m
        unfold Ms.start
        cases ms with
        | idle => rw [if_neg (by show ¬ ¬ (0 : Nat) = 0; decide), if_pos hri]
        | wants => exact absurd hi.1 (by decide)
        | waits => exact absurd hi.1 (by decide)
      rw [et]
      have hfew := ask_few hri
      have HSZ : Hid ((w.alloc (.cells (askCells a h k) 40)).heap.size = w.heap.size + 1) := qh (by simp)
      go_enter Tryz.func16, Tryz.ntmps16
      go_wp2_with fail
      refine HBU.out.mono ?_
      rintro e w1 ⟨rfl, rfl⟩
      go_wp2_with fail
      refine HRI.out.mono ?_
      rintro e w1 ⟨rfl, hb1⟩
      have HROW1 := qh (row_later HROW.out hb1)
      have HX2 := qh (HX1.out.below hb1)
      have HA2 := qh (HA1.out.below hb1)
      have HB1 := qh (HB0.out.trans (hb1.mono (by simp)))
      clear hb1 HRI HBU r0 r1 r2 r3 r4 r5 r6 r7
      go_wp2_with fail
      have hz1 : w.heap.size < w1.heap.size := row_lt HROW1.out
      obtain ⟨g14, g15, f14, f15⟩ := ask_lists HROW1.out
      have HC16 : Hid (∀ X, Below w1.heap.size w1 X → Calls Tryz.prog 38 #[.slice h.1 h.2.1 h.2.2] X (OwnWords8 X a.words)) := qh (fun X hX => clone16_any h.1 h.2.1 h.2.2 a.words HA2.out.hn (by have := HA2.out.hn; omega) X (HA2.out.hl.below hX (zq _)))
      have HC1 : Hid (∀ X, Below w1.heap.size w1 X → Calls Tryz.prog 39 #[.slice k.1 k.2.1 k.2.2] X (OwnBits8 X a.bits)) := qh (fun X hX => clone1_any k.1 k.2.1 k.2.2 a.bits HA2.out.kn (by have := HA2.out.kn; omega) X (HA2.out.kl.below hX (zq _)))
      have HD1 : Hid (Below w1.heap.size w1 w1.drew) := qh (drewN_below (Below.refl _ w1) 1)
      go_region_with (first | (go_at_call 38; (with_reducible refine (HC16.out _ HD1.out).mono ?_); rintro e w2 ⟨A2, n2, c2, rfl, hn2, hown2, hb2⟩; have hbw2 := HD1.out.trans (hb2.mono HD1.out.size); have HROW2 := qh (row_later HROW1.out hbw2); have hF2 := ask_lists HROW2.out; have g25 := hF2.2.1; have hz2 : w.heap.size < w2.heap.size := row_lt HROW2.out; clear hF2) | (go_at_call 39; (with_reducible refine (HC1.out _ hbw2).mono ?_); rintro e w3 ⟨A3, n3, c3, rfl, hn3, hown3, hb3⟩; have hbw3 := hbw2.trans (hb3.mono hbw2.size); have HROW3 := qh (row_later HROW1.out hbw3); have hF3 := ask_lists HROW3.out; have g34 := hF3.1; have g35 := hF3.2.1; have f34 := hF3.2.2.1; have f35 := hF3.2.2.2; have hz3 : w.heap.size < w3.heap.size := row_lt HROW3.out; clear hF3))
      all_goals (
        have HOA2 := qh (own_at hown2)
        have HLT2 := qh (fun g hg => (hown2.lt g hg).1)
        have HOA3 := qh (own_at hown3)
        have HLT3 := qh (fun g hg => (hown3.lt g hg).1)
        have HN2 := qh hn2
        have HN3 := qh hn3
        have HBC := qh hb3
        have HBW3 := qh hbw3
        have HRM3 := qh (HX2.out.below hbw3)
        have HS2 := qh hbw2.size
        obtain ⟨W4, hW4⟩ : ∃ W4, (w3.setCell ⟨w.heap.size, 4, none⟩ (.slice A2 n2 c2)).setCell ⟨w.heap.size, 5, none⟩ (.slice A3 n3 c3) = W4 := ⟨_, rfl⟩
        have hr4 : W4.heap[w.heap.size]? = some (.cells (askCells a (A2, n2, c2) (A3, n3, c3)) 40 (0, 0)) := by
          rw [← hW4, row_set (row_set HROW3.out _) _]
          rfl
        have HB34 : Hid (But [w.heap.size] w3 W4) := qh (by rw [← hW4]; exact (But.one w3 w.heap.size 4 _).setCell (p := ⟨w.heap.size, 5, none⟩) (.inl (List.mem_singleton.2 rfl)) _)
        have hbw4 : Below w.heap.size w W4 := by
          rw [← hW4]
          exact ((HB1.out.trans (hbw3.mono (Nat.le_of_lt hz1))).setCell (p := ⟨w.heap.size, 4, none⟩) (zq _) _).setCell (p := ⟨w.heap.size, 5, none⟩) (zq _) _
        have HBW4 := qh hbw4
        have HR4 := qh hr4
        have HQ4 := qh (row_but HRM3.out.row HB34.out (by rw [List.mem_singleton]; omega))
        rw [hW4]
        clear hW4 hr4 hbw4 hown2 hown3 hn2 hn3 hb3 hbw3 hb2 hbw2 g14 g15 f14 f15 g25 g34 g35 f34 f35 HC16 HC1 HD1 hz2 hz3
        have hz4 : w.heap.size < W4.heap.size := row_lt HR4.out
        have hq4 : q < W4.heap.size := row_lt HQ4.out
        have hce := row_eight (show W4.heap[w.heap.size]? = some (.cells #[_, _, _, _, _, _, _, _] _ (0, 0)) from HR4.out)
        obtain ⟨p0, p1, p2, p3, p4, p5, p6, p7⟩ := hce
        obtain ⟨m5, m6, m7, m8, m9, m10, m11, m12⟩ := lm_asks HQ4.out
        have m13 := (lm_loads HQ4.out).2.2.2.2.2.1
        have f5 := lm_frees HQ4.out 5
        have f6 := lm_frees HQ4.out 6
        have f7 := lm_frees HQ4.out 7
        have f8 := lm_frees HQ4.out 8
        have f9 := lm_frees HQ4.out 9
        have f10 := lm_frees HQ4.out 10
        have f11 := lm_frees HQ4.out 11
        have f12 := lm_frees HQ4.out 12
        have f13 := lm_frees HQ4.out 13
        have HAS := qh (lm_asked HQ4.out a (A2, n2, c2) (A3, n3, c3) _ rfl)
        have HT := qh (turn8_any 1 q c 0 0 tk m.quiet a (A2, n2, c2) (A3, n3, c3) d _ HAS.out.2)
        go_wp2_with fail
        refine HT.out.mono ?_
        rintro e w6 ⟨rfl, hb6, hr6⟩
        have HB46 := qh (HAS.out.1.trans hb6)
        have HR6 := qh hr6
        clear hb6 hr6 p0 p1 p2 p3 p4 p5 p6 p7 m5 m6 m7 m8 m9 m10 m11 m12 m13 f5 f6 f7 f8 f9 f10 f11 f12 f13 HT HAS
        go_wp2_with fail
        go_ret
        have hbw6 : But [q] w w6 := (But.of_below (S := [q]) HBW4.out (zq _)).trans HB46.out
        have h2 : ∀ b o s, A2 = some ⟨b, o, s⟩ → w1.heap.size ≤ b := fun b o s e => by
          subst e
          have h1 := HLT2.out b rfl
          rw [show (w1.drew).heap.size = w1.heap.size from rfl] at h1
          exact h1
        have h3 : ∀ b o s, A3 = some ⟨b, o, s⟩ → w1.heap.size ≤ b := fun b o s e => by
          subst e
          have h1 := HLT3.out b rfl
          have h2 := HS2.out
          omega
        have hin : AskIn w6 a (A2, n2, c2) (A3, n3, c3) :=
          ⟨HOA2.out.2.2.1, HOA2.out.1, HOA2.out.2.1, (((HOA2.out.2.2.2.below HBC.out (zq _)).but HB34.out (fun g o s e _ hm => by have h1 := h2 g o s e; have h3 := List.mem_singleton.1 hm; omega)).but HB46.out (fun g o s e _ hm => by have h1 := h2 g o s e; have h3 := List.mem_singleton.1 hm; omega)),
            HOA3.out.2.2.1, HOA3.out.1, HOA3.out.2.1, ((HOA3.out.2.2.2.but HB34.out (fun g o s e _ hm => by have h1 := h3 g o s e; have h3 := List.mem_singleton.1 hm; omega)).but HB46.out (fun g o s e _ hm => by have h1 := h3 g o s e; have h3 := List.mem_singleton.1 hm; omega))⟩
        exact ⟨rfl, ⟨1, 0, 0, a, (A2, n2, c2), (A3, n3, c3), (none, 0, 0), [], HX.out.asks hbw6 HR6.out hin (fun g o s e _ hS => by have h1 := h2 g o s e; have h4 := HX.out.lt g hS; omega) (fun g o s e _ hS => by have h1 := h3 g o s e; have h4 := HX.out.lt g hS; omega), hq, rfl, rfl, rfl, rfl⟩, hbw6⟩)
  · have et : Ms.start m a = (m, 8) := by
      obtain ⟨mq, ms⟩ := m
      unfold Ms.start
      cases ms with
      | idle => exact absurd hi h0'
      | wants => rw [if_pos (by show ¬ (1 : Nat) = 0; decide)]
      | waits => rw [if_pos (by show ¬ (2 : Nat) = 0; decide)]
    rw [et]
    rw [show (st != 0) = true by rw [bne_iff_ne]; exact h0'] at hbusy
    have HBU := qh hbusy
    clear x x1 ha ha1 hi hb0 hrow hbusy h0'
    go_enter Tryz.func16, Tryz.ntmps16
    go_wp2_with fail
    refine HBU.out.mono ?_
    rintro e w1 ⟨rfl, rfl⟩
    go_wp2_with fail
    go_ret
    exact ⟨rfl, ⟨st, tr, tk, a0, h0, k0, d, b0, HX1.out, hq, HI.out⟩, But.of_below (S := [q]) HB0.out (zq _)⟩

end Go.Proofs.YtlgmjnjhdamknaaGreat
