
/- A part of the proof of the law MasterDoes. -/
import Derived.Test.YtlgmjnjhdamknaaGreatMem
import Derived.Test.YtlgmjnjhdamknaaGreatRt7
import Derived.Test.YtlgmjnjhdamknaaGreatLt7
namespace Go.Proofs.YtlgmjnjhdamknaaGreat
open Go.RowKit

theorem AnsIn.exc (w : World) (n : Int) : AnsIn w ⟨n, [], [], []⟩ (none, 0, 0) (none, 0, 0) (none, 0, 0) :=
  ⟨rfl, zq _, Nat.zero_le _, Lies.nil _ _, rfl, zq _, Nat.zero_le _, Lies.nil _ _, rfl, zq _, Nat.zero_le _, Lies.nil _ _, by intro s hs; cases hs⟩

set_option maxRecDepth 100000 in
set_option maxHeartbeats 1000000 in
theorem comes7E_any (a : Ask) (x : Ans) (h k hx kx tx : Hd) (w : World) (hi : AnsIn w x hx kx tx) (hr : Ak.right a = true) (he : ¬ x.exc = 0) :
    Calls Tryz.prog 48 #[askV a h k, ansV x hx kx tx] w fun e w' => e = .returned (.bool (An.right a x)) ∧ Below w.heap.size w w' := by
  obtain ⟨code, addr, count, to, words, bits, and_, or_⟩ := a
  obtain ⟨exc, xb, xw, xt⟩ := x
  have he : ¬ exc = 0 := he
  obtain ⟨hra, hrx, hb0, hlt1, hlt0⟩ := two_new7 w #[.int .i64 code, .int .i64 addr, .int .i64 count, .int .i64 to, .slice h.1 h.2.1 h.2.2, .slice k.1 k.2.1 k.2.2, u16v and_, u16v or_] #[.int .i64 exc, .slice hx.1 hx.2.1 hx.2.2, .slice kx.1 kx.2.1 kx.2.2, .slice tx.1 tx.2.1 tx.2.2] 40 46
  have HSM := qh (same7_any ⟨exc, xb, xw, xt⟩ ⟨exc, [], [], []⟩ hx kx tx (none, 0, 0) (none, 0, 0) (none, 0, 0) _ (hi.below hb0) (AnsIn.exc _ exc))
  have HV : Hid (An.right ⟨code, addr, count, to, words, bits, and_, or_⟩ ⟨exc, xb, xw, xt⟩ = (decide (1 ≤ exc) && decide (exc ≤ 255) && An.same ⟨exc, xb, xw, xt⟩ ⟨exc, [], [], []⟩)) := qh (by rw [← An.comesC_eq hr]; unfold An.comesC; rw [if_neg he])
  obtain ⟨V, hV⟩ : ∃ V, An.right ⟨code, addr, count, to, words, bits, and_, or_⟩ ⟨exc, xb, xw, xt⟩ = V := ⟨_, rfl⟩
  rw [hV] at HV ⊢
  rw [ansV_eq, ansV_eq] at HSM
  rw [askV_eq, ansV_eq]
  have ee : (exc != 0) = true := by rw [bne_iff_ne]; exact he
  clear hV hi hr
  obtain ⟨x0, x1, x2, x3⟩ := row_quad hrx
  by_cases h1 : exc ≥ 1
  · by_cases h2 : exc ≤ 255
    · generalize An.same ⟨exc, xb, xw, xt⟩ ⟨exc, [], [], []⟩ = S at *
      replace HV : Hid (V = S) := qh (by rw [HV.out, decide_eq_true h1, decide_eq_true h2]; rfl)
      go_enter Tryz.func48, Tryz.ntmps48
      go_wp2_with fail
      refine HSM.out.mono ?_
      rintro e w2 ⟨rfl, hb2⟩
      go_wp2_with fail
      go_ret
      exact ⟨by rw [HV.out]; rfl, hb0.trans (hb2.mono hb0.size)⟩
    · replace HV : Hid (V = false) := qh (by rw [HV.out, decide_eq_false h2]; simp)
      go_enter Tryz.func48, Tryz.ntmps48
      go_wp2_with fail
      go_ret
      exact ⟨by rw [HV.out]; rfl, hb0⟩
  · have h2 : exc ≤ 255 := by omega
    replace HV : Hid (V = false) := qh (by rw [HV.out, decide_eq_false h1]; simp)
    go_enter Tryz.func48, Tryz.ntmps48
    go_wp2_with fail
    go_ret
    exact ⟨by rw [HV.out]; rfl, hb0⟩

set_option maxRecDepth 100000 in
set_option maxHeartbeats 1000000 in
theorem comes7_1 (addr count to : Int) (words : List UInt16) (bits : List Bool) (and_ or_ : UInt16) (xb : List Bool) (xw : List UInt16) (xt : List ByteArray) (h k hx kx tx : Hd) (w : World) (hi : AnsIn w ⟨0, xb, xw, xt⟩ hx kx tx) (htn : tx.2.1 ≤ 1000000) (hr : Ak.right ⟨1, addr, count, to, words, bits, and_, or_⟩ = true)  :
    Calls Tryz.prog 48 #[askV ⟨1, addr, count, to, words, bits, and_, or_⟩ h k, ansV ⟨0, xb, xw, xt⟩ hx kx tx] w fun e w' => e = .returned (.bool (An.right ⟨1, addr, count, to, words, bits, and_, or_⟩ ⟨0, xb, xw, xt⟩)) ∧ Below w.heap.size w w' := by
  obtain ⟨hra, hrx, hb0, hlt1, hlt0⟩ := two_new7 w #[.int .i64 1, .int .i64 addr, .int .i64 count, .int .i64 to, .slice h.1 h.2.1 h.2.2, .slice k.1 k.2.1 k.2.2, u16v and_, u16v or_] #[.int .i64 0, .slice hx.1 hx.2.1 hx.2.2, .slice kx.1 kx.2.1 kx.2.2, .slice tx.1 tx.2.1 tx.2.2] 40 46
  obtain ⟨-, -, -, -, -, -, ha0, ha1, -⟩ := Ak.formed_parts (An.ak_right hr).1
  have HTC := qh (textsCome_any ⟨1, addr, count, to, words, bits, and_, or_⟩ h k tx.1 tx.2.1 tx.2.2 xt hi.tn htn ha0 ha1 hi.ts _ (hi.below hb0).tl)
  have HV : Hid (An.right ⟨1, addr, count, to, words, bits, and_, or_⟩ ⟨0, xb, xw, xt⟩ = (((hx.2.1 : Int) == count) && ((kx.2.1 : Int) == 0) && An.textsC ⟨1, addr, count, to, words, bits, and_, or_⟩ xt)) := qh (by
    rw [← An.comesC_eq hr]
    unfold An.comesC
    rw [if_pos rfl]
    have e1 : xb.length = hx.2.1 := hi.hn
    have e2 : xw.length = kx.2.1 := hi.kn
    rw [← e1, ← e2]
    have w1 : An.wantBits ⟨1, addr, count, to, words, bits, and_, or_⟩ ⟨0, xb, xw, xt⟩ = count := by rfl
    have w2 : An.wantWords ⟨1, addr, count, to, words, bits, and_, or_⟩ ⟨0, xb, xw, xt⟩ = 0 := by rfl
    rw [w1, w2]
    rfl)
  obtain ⟨V, hV⟩ : ∃ V, An.right ⟨1, addr, count, to, words, bits, and_, or_⟩ ⟨0, xb, xw, xt⟩ = V := ⟨_, rfl⟩
  rw [hV] at HV ⊢
  rw [askV_eq] at HTC
  rw [askV_eq, ansV_eq]
  obtain ⟨T, hT⟩ : ∃ T, An.textsC ⟨1, addr, count, to, words, bits, and_, or_⟩ xt = T := ⟨_, rfl⟩
  rw [hT] at HV HTC
  clear hV hi hr hT ha0 ha1 htn
  obtain ⟨r0, r1, r2, r3, r4, r5, r6, r7⟩ := row_eight hra
  obtain ⟨x0, x1, x2, x3⟩ := row_quad hrx
  cases hB : ((hx.2.1 : Int) == count) with
  | false =>
    rw [hB] at HV
    go_enter Tryz.func48, Tryz.ntmps48
    go_wp2_with fail
    go_ret
    exact ⟨by rw [HV.out]; simp, hb0⟩

  | true =>
    cases hK : ((kx.2.1 : Int) == 0) with
    | false =>
      rw [hB, hK] at HV
      go_enter Tryz.func48, Tryz.ntmps48
      go_wp2_with fail
      go_ret
      exact ⟨by rw [HV.out]; simp, hb0⟩

    | true =>
      rw [hB, hK] at HV
      go_enter Tryz.func48, Tryz.ntmps48
      go_wp2_with fail
      refine (HTC.out).mono ?_
      rintro e w2 ⟨rfl, hb2⟩
      go_wp2_with fail
      go_ret
      exact ⟨by rw [HV.out]; simp, hb0.trans (hb2.mono hb0.size)⟩

set_option maxRecDepth 100000 in
set_option maxHeartbeats 1000000 in
theorem comes7_2 (addr count to : Int) (words : List UInt16) (bits : List Bool) (and_ or_ : UInt16) (xb : List Bool) (xw : List UInt16) (xt : List ByteArray) (h k hx kx tx : Hd) (w : World) (hi : AnsIn w ⟨0, xb, xw, xt⟩ hx kx tx) (htn : tx.2.1 ≤ 1000000) (hr : Ak.right ⟨2, addr, count, to, words, bits, and_, or_⟩ = true)  :
    Calls Tryz.prog 48 #[askV ⟨2, addr, count, to, words, bits, and_, or_⟩ h k, ansV ⟨0, xb, xw, xt⟩ hx kx tx] w fun e w' => e = .returned (.bool (An.right ⟨2, addr, count, to, words, bits, and_, or_⟩ ⟨0, xb, xw, xt⟩)) ∧ Below w.heap.size w w' := by
  obtain ⟨hra, hrx, hb0, hlt1, hlt0⟩ := two_new7 w #[.int .i64 2, .int .i64 addr, .int .i64 count, .int .i64 to, .slice h.1 h.2.1 h.2.2, .slice k.1 k.2.1 k.2.2, u16v and_, u16v or_] #[.int .i64 0, .slice hx.1 hx.2.1 hx.2.2, .slice kx.1 kx.2.1 kx.2.2, .slice tx.1 tx.2.1 tx.2.2] 40 46
  obtain ⟨-, -, -, -, -, -, ha0, ha1, -⟩ := Ak.formed_parts (An.ak_right hr).1
  have HTC := qh (textsCome_any ⟨2, addr, count, to, words, bits, and_, or_⟩ h k tx.1 tx.2.1 tx.2.2 xt hi.tn htn ha0 ha1 hi.ts _ (hi.below hb0).tl)
  have HV : Hid (An.right ⟨2, addr, count, to, words, bits, and_, or_⟩ ⟨0, xb, xw, xt⟩ = (((hx.2.1 : Int) == count) && ((kx.2.1 : Int) == 0) && An.textsC ⟨2, addr, count, to, words, bits, and_, or_⟩ xt)) := qh (by
    rw [← An.comesC_eq hr]
    unfold An.comesC
    rw [if_pos rfl]
    have e1 : xb.length = hx.2.1 := hi.hn
    have e2 : xw.length = kx.2.1 := hi.kn
    rw [← e1, ← e2]
    have w1 : An.wantBits ⟨2, addr, count, to, words, bits, and_, or_⟩ ⟨0, xb, xw, xt⟩ = count := by rfl
    have w2 : An.wantWords ⟨2, addr, count, to, words, bits, and_, or_⟩ ⟨0, xb, xw, xt⟩ = 0 := by rfl
    rw [w1, w2]
    rfl)
  obtain ⟨V, hV⟩ : ∃ V, An.right ⟨2, addr, count, to, words, bits, and_, or_⟩ ⟨0, xb, xw, xt⟩ = V := ⟨_, rfl⟩
  rw [hV] at HV ⊢
  rw [askV_eq] at HTC
  rw [askV_eq, ansV_eq]
  obtain ⟨T, hT⟩ : ∃ T, An.textsC ⟨2, addr, count, to, words, bits, and_, or_⟩ xt = T := ⟨_, rfl⟩
  rw [hT] at HV HTC
  clear hV hi hr hT ha0 ha1 htn
  obtain ⟨r0, r1, r2, r3, r4, r5, r6, r7⟩ := row_eight hra
  obtain ⟨x0, x1, x2, x3⟩ := row_quad hrx
  cases hB : ((hx.2.1 : Int) == count) with
  | false =>
    rw [hB] at HV
    go_enter Tryz.func48, Tryz.ntmps48
    go_wp2_with fail
    go_ret
    exact ⟨by rw [HV.out]; simp, hb0⟩

  | true =>
    cases hK : ((kx.2.1 : Int) == 0) with
    | false =>
      rw [hB, hK] at HV
      go_enter Tryz.func48, Tryz.ntmps48
      go_wp2_with fail
      go_ret
      exact ⟨by rw [HV.out]; simp, hb0⟩

    | true =>
      rw [hB, hK] at HV
      go_enter Tryz.func48, Tryz.ntmps48
      go_wp2_with fail
      refine (HTC.out).mono ?_
      rintro e w2 ⟨rfl, hb2⟩
      go_wp2_with fail
      go_ret
      exact ⟨by rw [HV.out]; simp, hb0.trans (hb2.mono hb0.size)⟩

set_option maxRecDepth 100000 in
set_option maxHeartbeats 1000000 in
theorem comes7_3 (code : Int) (hcode : code = 3 ∨ code = 4 ∨ code = 23) (addr count to : Int) (words : List UInt16) (bits : List Bool) (and_ or_ : UInt16) (xb : List Bool) (xw : List UInt16) (xt : List ByteArray) (h k hx kx tx : Hd) (w : World) (hi : AnsIn w ⟨0, xb, xw, xt⟩ hx kx tx) (htn : tx.2.1 ≤ 1000000) (hr : Ak.right ⟨code, addr, count, to, words, bits, and_, or_⟩ = true)  :
    Calls Tryz.prog 48 #[askV ⟨code, addr, count, to, words, bits, and_, or_⟩ h k, ansV ⟨0, xb, xw, xt⟩ hx kx tx] w fun e w' => e = .returned (.bool (An.right ⟨code, addr, count, to, words, bits, and_, or_⟩ ⟨0, xb, xw, xt⟩)) ∧ Below w.heap.size w w' := by
  obtain ⟨hra, hrx, hb0, hlt1, hlt0⟩ := two_new7 w #[.int .i64 code, .int .i64 addr, .int .i64 count, .int .i64 to, .slice h.1 h.2.1 h.2.2, .slice k.1 k.2.1 k.2.2, u16v and_, u16v or_] #[.int .i64 0, .slice hx.1 hx.2.1 hx.2.2, .slice kx.1 kx.2.1 kx.2.2, .slice tx.1 tx.2.1 tx.2.2] 40 46
  obtain ⟨-, -, -, -, -, -, ha0, ha1, -⟩ := Ak.formed_parts (An.ak_right hr).1
  have HTC := qh (textsCome_any ⟨code, addr, count, to, words, bits, and_, or_⟩ h k tx.1 tx.2.1 tx.2.2 xt hi.tn htn ha0 ha1 hi.ts _ (hi.below hb0).tl)
  have HV : Hid (An.right ⟨code, addr, count, to, words, bits, and_, or_⟩ ⟨0, xb, xw, xt⟩ = (((hx.2.1 : Int) == 0) && ((kx.2.1 : Int) == count) && An.textsC ⟨code, addr, count, to, words, bits, and_, or_⟩ xt)) := qh (by
    rw [← An.comesC_eq hr]
    unfold An.comesC
    rw [if_pos rfl]
    have e1 : xb.length = hx.2.1 := hi.hn
    have e2 : xw.length = kx.2.1 := hi.kn
    rw [← e1, ← e2]
    have w1 : An.wantBits ⟨code, addr, count, to, words, bits, and_, or_⟩ ⟨0, xb, xw, xt⟩ = 0 := by rcases hcode with rfl | rfl | rfl <;> rfl
    have w2 : An.wantWords ⟨code, addr, count, to, words, bits, and_, or_⟩ ⟨0, xb, xw, xt⟩ = count := by rcases hcode with rfl | rfl | rfl <;> rfl
    rw [w1, w2]
    rfl)
  obtain ⟨V, hV⟩ : ∃ V, An.right ⟨code, addr, count, to, words, bits, and_, or_⟩ ⟨0, xb, xw, xt⟩ = V := ⟨_, rfl⟩
  rw [hV] at HV ⊢
  rw [askV_eq] at HTC
  rw [askV_eq, ansV_eq]
  obtain ⟨T, hT⟩ : ∃ T, An.textsC ⟨code, addr, count, to, words, bits, and_, or_⟩ xt = T := ⟨_, rfl⟩
  rw [hT] at HV HTC
  clear hV hi hr hT ha0 ha1 htn
  rcases hcode with rfl | rfl | rfl
  all_goals
    obtain ⟨r0, r1, r2, r3, r4, r5, r6, r7⟩ := row_eight hra
    obtain ⟨x0, x1, x2, x3⟩ := row_quad hrx
    cases hB : ((hx.2.1 : Int) == 0) with
    | false =>
      rw [hB] at HV
      go_enter Tryz.func48, Tryz.ntmps48
      go_wp2_with fail
      go_ret
      exact ⟨by rw [HV.out]; simp, hb0⟩

    | true =>
      cases hK : ((kx.2.1 : Int) == count) with
      | false =>
        rw [hB, hK] at HV
        go_enter Tryz.func48, Tryz.ntmps48
        go_wp2_with fail
        go_ret
        exact ⟨by rw [HV.out]; simp, hb0⟩

      | true =>
        rw [hB, hK] at HV
        go_enter Tryz.func48, Tryz.ntmps48
        go_wp2_with fail
        refine (HTC.out).mono ?_
        rintro e w2 ⟨rfl, hb2⟩
        go_wp2_with fail
        go_ret
        exact ⟨by rw [HV.out]; simp, hb0.trans (hb2.mono hb0.size)⟩

set_option maxRecDepth 100000 in
set_option maxHeartbeats 1000000 in
theorem comes7_no (code : Int) (addr count to : Int) (words : List UInt16) (bits : List Bool) (and_ or_ : UInt16) (xb : List Bool) (xw : List UInt16) (xt : List ByteArray) (h k hx kx tx : Hd) (w : World) (hi : AnsIn w ⟨0, xb, xw, xt⟩ hx kx tx) (htn : tx.2.1 ≤ 1000000) (hr : Ak.right ⟨code, addr, count, to, words, bits, and_, or_⟩ = true) (hc : 1 ≤ code ∧ ¬ (code = 1 ∨ code = 2 ∨ code = 3 ∨ code = 4 ∨ code = 23)) :
    Calls Tryz.prog 48 #[askV ⟨code, addr, count, to, words, bits, and_, or_⟩ h k, ansV ⟨0, xb, xw, xt⟩ hx kx tx] w fun e w' => e = .returned (.bool (An.right ⟨code, addr, count, to, words, bits, and_, or_⟩ ⟨0, xb, xw, xt⟩)) ∧ Below w.heap.size w w' := by
  obtain ⟨hra, hrx, hb0, hlt1, hlt0⟩ := two_new7 w #[.int .i64 code, .int .i64 addr, .int .i64 count, .int .i64 to, .slice h.1 h.2.1 h.2.2, .slice k.1 k.2.1 k.2.2, u16v and_, u16v or_] #[.int .i64 0, .slice hx.1 hx.2.1 hx.2.2, .slice kx.1 kx.2.1 kx.2.2, .slice tx.1 tx.2.1 tx.2.2] 40 46
  obtain ⟨-, -, -, -, -, -, ha0, ha1, -⟩ := Ak.formed_parts (An.ak_right hr).1
  have HTC := qh (textsCome_any ⟨code, addr, count, to, words, bits, and_, or_⟩ h k tx.1 tx.2.1 tx.2.2 xt hi.tn htn ha0 ha1 hi.ts _ (hi.below hb0).tl)
  have HV : Hid (An.right ⟨code, addr, count, to, words, bits, and_, or_⟩ ⟨0, xb, xw, xt⟩ = (((hx.2.1 : Int) == 0) && ((kx.2.1 : Int) == 0) && An.textsC ⟨code, addr, count, to, words, bits, and_, or_⟩ xt)) := qh (by
    rw [← An.comesC_eq hr]
    unfold An.comesC
    rw [if_pos rfl]
    have e1 : xb.length = hx.2.1 := hi.hn
    have e2 : xw.length = kx.2.1 := hi.kn
    rw [← e1, ← e2]
    have w1 : An.wantBits ⟨code, addr, count, to, words, bits, and_, or_⟩ ⟨0, xb, xw, xt⟩ = 0 := by unfold An.wantBits; rw [if_neg (by simp only; omega)]
    have w2 : An.wantWords ⟨code, addr, count, to, words, bits, and_, or_⟩ ⟨0, xb, xw, xt⟩ = 0 := by unfold An.wantWords; rw [if_neg (by simp only; omega)]
    rw [w1, w2]
    rfl)
  obtain ⟨V, hV⟩ : ∃ V, An.right ⟨code, addr, count, to, words, bits, and_, or_⟩ ⟨0, xb, xw, xt⟩ = V := ⟨_, rfl⟩
  rw [hV] at HV ⊢
  rw [askV_eq] at HTC
  rw [askV_eq, ansV_eq]
  have c1 : (code == 1) = false := beq_eq_false_iff_ne.2 (by omega)
  have c2 : (code == 2) = false := beq_eq_false_iff_ne.2 (by omega)
  have c3 : (code == 3) = false := beq_eq_false_iff_ne.2 (by omega)
  have c4 : (code == 4) = false := beq_eq_false_iff_ne.2 (by omega)
  have c23 : (code == 23) = false := beq_eq_false_iff_ne.2 (by omega)
  obtain ⟨T, hT⟩ : ∃ T, An.textsC ⟨code, addr, count, to, words, bits, and_, or_⟩ xt = T := ⟨_, rfl⟩
  rw [hT] at HV HTC
  clear hV hi hr hT ha0 ha1 htn
  obtain ⟨r0, r1, r2, r3, r4, r5, r6, r7⟩ := row_eight hra
  obtain ⟨x0, x1, x2, x3⟩ := row_quad hrx
  cases hB : ((hx.2.1 : Int) == 0) with
  | false =>
    rw [hB] at HV
    go_enter Tryz.func48, Tryz.ntmps48
    go_wp2_with fail
    go_ret
    exact ⟨by rw [HV.out]; simp, hb0⟩

  | true =>
    cases hK : ((kx.2.1 : Int) == 0) with
    | false =>
      rw [hB, hK] at HV
      go_enter Tryz.func48, Tryz.ntmps48
      go_wp2_with fail
      go_ret
      exact ⟨by rw [HV.out]; simp, hb0⟩

    | true =>
      rw [hB, hK] at HV
      go_enter Tryz.func48, Tryz.ntmps48
      go_wp2_with fail
      refine (HTC.out).mono ?_
      rintro e w2 ⟨rfl, hb2⟩
      go_wp2_with fail
      go_ret
      exact ⟨by rw [HV.out]; simp, hb0.trans (hb2.mono hb0.size)⟩

theorem comes7_any (a : Ask) (x : Ans) (h k hx kx tx : Hd) (w : World) (hi : AnsIn w x hx kx tx) (htn : tx.2.1 ≤ 1000000) (hr : Ak.right a = true) :
    Calls Tryz.prog 48 #[askV a h k, ansV x hx kx tx] w fun e w' => e = .returned (.bool (An.right a x)) ∧ Below w.heap.size w w' := by
  by_cases he : x.exc = 0
  · obtain ⟨hc0, -⟩ := An.code_lt (An.ak_right hr).1
    obtain ⟨code, addr, count, to, words, bits, and_, or_⟩ := a
    obtain ⟨exc, xb, xw, xt⟩ := x
    obtain rfl : exc = 0 := he
    by_cases h1 : code = 1
    · subst h1; exact comes7_1 addr count to words bits and_ or_ xb xw xt h k hx kx tx w hi htn hr
    by_cases h2 : code = 2
    · subst h2; exact comes7_2 addr count to words bits and_ or_ xb xw xt h k hx kx tx w hi htn hr
    by_cases h3 : code = 3
    · subst h3; exact comes7_3 3 (.inl rfl) addr count to words bits and_ or_ xb xw xt h k hx kx tx w hi htn hr
    by_cases h4 : code = 4
    · subst h4; exact comes7_3 4 (.inr (.inl rfl)) addr count to words bits and_ or_ xb xw xt h k hx kx tx w hi htn hr
    by_cases h23 : code = 23
    · subst h23; exact comes7_3 23 (.inr (.inr (rfl))) addr count to words bits and_ or_ xb xw xt h k hx kx tx w hi htn hr
    exact comes7_no code addr count to words bits and_ or_ xb xw xt h k hx kx tx w hi htn hr ⟨hc0, by omega⟩
  · exact comes7E_any a x h k hx kx tx w hi hr he
theorem lay7_any (a : Ask) (x : Ans) (h k hx kx tx : Hd) (w : World) (ha : AskIn w a h k) (hi : AnsIn w x hx kx tx) (hx' : An.right a x = true) :
    Calls Tryz.prog 50 #[askV a h k, ansV x hx kx tx] w (AnTextPost w (An.text a x)) := by
  have hr := (An.right_parts hx').1
  have hs := An.shape hx'
  have hlen := (An.guess_text hr hs).2.2
  obtain ⟨hc0, hc1⟩ := An.code_lt (An.ak_right hr).1
  by_cases he : x.exc = 0
  · obtain ⟨r, hr2, -⟩ := body7_any a x h k hx kx tx w ha hi hr hs he
    have hB : ∀ W, AskIn W a h k → AnsIn W x hx kx tx → Calls Tryz.prog 96 #[askV a h k, ansV x hx kx tx] W (AnTextPost W r) := fun W ha hi => by
      obtain ⟨r', h1, h2⟩ := body7_any a x h k hx kx tx W ha hi hr hs he
      rw [hr2] at h1
      injection h1 with _ h1
      rw [h1]
      exact h2
    rw [hr2] at hlen ⊢
    rw [List.length_cons] at hlen
    obtain ⟨code, addr, count, to, words, bits, and_, or_⟩ := a
    obtain ⟨exc, xb, xw, xt⟩ := x
    obtain rfl : exc = 0 := he
    obtain ⟨cn, rfl⟩ := Int.eq_ofNat_of_zero_le (show 0 ≤ code from by dsimp only at hc0; omega)
    exact lay7B_any cn addr count to words bits and_ or_ xb xw xt h k hx kx tx w (by dsimp only at hc1; omega) ha hi r (by omega) hB
  · have hs2 := hs
    cases hs2 with
    | exc n h0 h1 =>
      have e : An.text a ⟨n, [], [], []⟩ = [An.b1 (128 + a.code.toNat), An.b1 n.toNat] := by unfold An.text; rw [if_pos (by dsimp only; omega)]
      rw [e]
      exact lay7E_any a n h k hx kx tx w hc0 hc1 h0 h1
    | bits l hc hl h1 => exact absurd rfl he
    | words l hc hl h1 => exact absurd rfl he
    | back hc => exact absurd rfl he
    | texts l hc h0 hs h1 h2 => exact absurd rfl he
def AnBytesPost (w : World) (a : Ask) (x : Ans) (e : Ending) (w' : World) : Prop :=
  ∃ A n c, e = .returned (.tuple #[.slice A n c, .int .i64 ((An.codeA a x : Nat) : Int)]) ∧ (An.bytes a x).length = n ∧ n ≤ c ∧ c ≤ maxLen ∧ Lies u8v w' A (An.bytes a x) ∧ Below w.heap.size w w'
set_option maxRecDepth 100000 in
set_option maxHeartbeats 1000000 in
theorem bytes7_any (a : Ask) (x : Ans) (h k hx kx tx : Hd) (w : World) (ha : AskIn w a h k) (hi : AnsIn w x hx kx tx) (htn : tx.2.1 ≤ 1000000) :
    Calls Tryz.prog 26 #[askV a h k, ansV x hx kx tx] w (AnBytesPost w a x) := by
  obtain ⟨code, addr, count, to, words, bits, and_, or_⟩ := a
  obtain ⟨exc, xb, xw, xt⟩ := x
  obtain ⟨hra, hrx, hb0, hlt1, hlt0⟩ := two_new7 w #[.int .i64 code, .int .i64 addr, .int .i64 count, .int .i64 to, .slice h.1 h.2.1 h.2.2, .slice k.1 k.2.1 k.2.2, u16v and_, u16v or_] #[.int .i64 exc, .slice hx.1 hx.2.1 hx.2.2, .slice kx.1 kx.2.1 kx.2.2, .slice tx.1 tx.2.1 tx.2.2] 40 46
  have HR := qh (right6_any _ h k _ (ha.below hb0))
  have HC := qh (fun W hW hr => comes7_any ⟨code, addr, count, to, words, bits, and_, or_⟩ ⟨exc, xb, xw, xt⟩ h k hx kx tx W ((hi.below hb0).below hW) htn hr)
  have HL := qh (fun W hW hr => lay7_any ⟨code, addr, count, to, words, bits, and_, or_⟩ ⟨exc, xb, xw, xt⟩ h k hx kx tx W ((ha.below hb0).below hW) ((hi.below hb0).below hW) hr)
  rw [askV_eq] at HR
  rw [askV_eq, ansV_eq] at HC HL
  rw [askV_eq, ansV_eq]
  clear ha hi htn
  go_enter Tryz.func26, Tryz.ntmps26
  cases hk : Ak.right ⟨code, addr, count, to, words, bits, and_, or_⟩ with
  | false =>
    have HP : Hid (An.bytes ⟨code, addr, count, to, words, bits, and_, or_⟩ ⟨exc, xb, xw, xt⟩ = [] ∧ An.codeA ⟨code, addr, count, to, words, bits, and_, or_⟩ ⟨exc, xb, xw, xt⟩ = 1) := qh (by unfold An.bytes An.codeA An.right; rw [hk]; exact ⟨rfl, rfl⟩)
    rw [hk] at HR
    clear hk HC HL
    obtain ⟨r0, r1, r2, r3, r4, r5, r6, r7⟩ := row_eight hra
    go_wp2_with fail
    refine HR.out.mono ?_
    rintro e w2 ⟨rfl, hb2⟩
    go_wp2_with fail
    go_ret2
    exact ⟨none, 0, 0, by rw [HP.out.2]; rfl, by rw [HP.out.1]; rfl, zq _, Nat.zero_le _, by rw [HP.out.1]; exact Lies.nil _ _, hb0.trans (hb2.mono hb0.size)⟩
  | true =>
    have HC2 := qh (fun W hW => HC.out W hW hk)
    rw [hk] at HR
    clear HC
    cases hv : An.right ⟨code, addr, count, to, words, bits, and_, or_⟩ ⟨exc, xb, xw, xt⟩ with
    | false =>
      have HP : Hid (An.bytes ⟨code, addr, count, to, words, bits, and_, or_⟩ ⟨exc, xb, xw, xt⟩ = [] ∧ An.codeA ⟨code, addr, count, to, words, bits, and_, or_⟩ ⟨exc, xb, xw, xt⟩ = 2) := qh (by unfold An.bytes An.codeA; rw [hk, hv]; exact ⟨rfl, rfl⟩)
      rw [hv] at HC2
      clear hk hv HL
      obtain ⟨r0, r1, r2, r3, r4, r5, r6, r7⟩ := row_eight hra
      go_wp2_with fail
      refine HR.out.mono ?_
      rintro e w2 ⟨rfl, hb2⟩
      have hlt2 : w.heap.size < w2.heap.size := row_lt (row_later hra hb2)
      have hlt3 : w.heap.size + 1 < w2.heap.size := row_lt (row_later hrx hb2)
      obtain ⟨r0, r1, r2, r3, r4, r5, r6, r7⟩ := row_eight (row_later hra hb2)
      obtain ⟨x0, x1, x2, x3⟩ := row_quad (row_later hrx hb2)
      go_wp2_with fail
      refine (HC2.out _ hb2).mono ?_
      rintro e w3 ⟨rfl, hb3⟩
      go_wp2_with fail
      go_ret2
      exact ⟨none, 0, 0, by rw [HP.out.2]; rfl, by rw [HP.out.1]; rfl, zq _, Nat.zero_le _, by rw [HP.out.1]; exact Lies.nil _ _, (hb0.trans (hb2.mono hb0.size)).trans (hb3.mono (hb0.trans (hb2.mono hb0.size)).size)⟩
    | true =>
      have HP : Hid (An.bytes ⟨code, addr, count, to, words, bits, and_, or_⟩ ⟨exc, xb, xw, xt⟩ = An.text ⟨code, addr, count, to, words, bits, and_, or_⟩ ⟨exc, xb, xw, xt⟩ ∧ An.codeA ⟨code, addr, count, to, words, bits, and_, or_⟩ ⟨exc, xb, xw, xt⟩ = 0) := qh (by unfold An.bytes An.codeA; rw [hk, hv]; exact ⟨rfl, rfl⟩)
      have HL2 := qh (fun W hW => HL.out W hW hv)
      rw [hv] at HC2
      clear hk hv HL
      obtain ⟨r0, r1, r2, r3, r4, r5, r6, r7⟩ := row_eight hra
      go_wp2_with fail
      refine HR.out.mono ?_
      rintro e w2 ⟨rfl, hb2⟩
      have hlt2 : w.heap.size < w2.heap.size := row_lt (row_later hra hb2)
      have hlt3 : w.heap.size + 1 < w2.heap.size := row_lt (row_later hrx hb2)
      obtain ⟨r0, r1, r2, r3, r4, r5, r6, r7⟩ := row_eight (row_later hra hb2)
      obtain ⟨x0, x1, x2, x3⟩ := row_quad (row_later hrx hb2)
      go_wp2_with fail
      refine (HC2.out _ hb2).mono ?_
      rintro e w3 ⟨rfl, hb3⟩
      have hb23 := hb2.trans (hb3.mono hb2.size)
      have hlt2 : w.heap.size < w3.heap.size := row_lt (row_later hra hb23)
      have hlt3 : w.heap.size + 1 < w3.heap.size := row_lt (row_later hrx hb23)
      obtain ⟨r0, r1, r2, r3, r4, r5, r6, r7⟩ := row_eight (row_later hra hb23)
      obtain ⟨x0, x1, x2, x3⟩ := row_quad (row_later hrx hb23)
      go_wp2_with fail
      refine (HL2.out _ hb23).mono ?_
      rintro e w4 ⟨A4, n4, c4, rfl, g1, g2, g3, g4, hb4⟩
      have hbw3 := hb0.trans (hb23.mono hb0.size)
      have HE : Hid (AnBytesPost w ⟨code, addr, count, to, words, bits, and_, or_⟩ ⟨exc, xb, xw, xt⟩ (.returned (.tuple #[.slice A4 n4 c4, .int .i64 0])) w4) := qh ⟨A4, n4, c4, by rw [HP.out.2]; rfl, by rw [HP.out.1]; exact g1, g2, g3, by rw [HP.out.1]; exact g4, hbw3.trans (hb4.mono hbw3.size)⟩
      clear g1 g2 g3 g4
      go_wp2_with fail
      go_ret2
      exact HE.out

end Go.Proofs.YtlgmjnjhdamknaaGreat
