
/-
  The law MasterGood, walked: it answers true, and nothing that was there is touched.
-/
import Derived.Test.YtlgmjnjhdamknaaGreatAwake8
import Derived.Test.YtlgmjnjhdamknaaGreatRparse
import Derived.Test.YtlgmjnjhdamknaaGreatRm
namespace Go.Proofs.YtlgmjnjhdamknaaGreat
open Go.RowKit

theorem An.same_self8 (x : Ans) : An.same x x = true := by unfold An.same; simp
theorem An.large_few8 {x : Ans} (h : An.large x = false) : x.texts.length ≤ 300 := by
  unfold An.large at h
  simp only [Bool.or_eq_false_iff, decide_eq_false_iff_not] at h
  omega
namespace Ms
theorem tick_at_once (c : Cfg) (a : Ask) : tick c ⟨c.gap, .wants 0 0 a⟩ = (⟨0, .waits 0 1 a []⟩, sent c a, .none) := by
  show tickSt c (min (c.gap + 1) c.gap) _ = _
  rw [Nat.min_eq_right (by omega)]
  unfold tickSt
  dsimp only
  rw [if_neg (by omega)]
theorem start_idle (c : Cfg) {a : Ask} (h : Ak.right a = true) : start ⟨c.gap, .idle⟩ a = (⟨c.gap, .wants 0 0 a⟩, 0) := by
  unfold start
  rw [if_neg (by show ¬ ¬ (0 : Nat) = 0; decide), if_pos h]
end Ms
theorem wb_codes (a : Ask) (x : Ans) : (An.codeA a x = 0 ∧ An.right a x = true ∧ Ak.right a = true) ∨ An.codeA a x ≠ 0 := by
  unfold An.codeA
  by_cases h : Ak.right a = true
  · rw [if_pos h]
    by_cases h2 : An.right a x = true
    · rw [if_pos h2]
      exact .inl ⟨rfl, h2, h⟩
    · rw [if_neg h2]
      exact .inr (by decide)
  · rw [if_neg h]
    exact .inr (by decide)

set_option maxRecDepth 100000 in
set_option maxHeartbeats 4000000 in
theorem good8_any (u : UInt8) (g f t : Int) (a : Ask) (ah ak : Hd) (x : Ans) (xh xk xt : Hd) (w : World) (ha : AskIn w a ah ak) (hx : AnsIn w x xh xk xt) :
    Calls Tryz.prog 5 #[.agg #[u8v u, .int .i64 g, .int .i64 f, .int .i64 t], askV a ah ak, ansV x xh xk xt] w fun e w' => e = .returned (.bool true) ∧ Below w.heap.size w w' := by
  rw [askV_eq, ansV_eq]
  have c1 := row_at w #[u8v u, .int .i64 g, .int .i64 f, .int .i64 t] 23 w.heap.size rfl
  obtain ⟨wa, hwa⟩ : ∃ wa, w.alloc (.cells #[u8v u, .int .i64 g, .int .i64 f, .int .i64 t] 23) = wa := ⟨_, rfl⟩
  rw [hwa] at c1
  have sa : wa.heap.size = w.heap.size + 1 := by rw [← hwa]; simp
  have ba : Below w.heap.size w wa := by rw [← hwa]; exact (Below.refl _ _).alloc (Nat.le_refl _) _
  have a1 := row_at wa (askCells a ah ak) 40 (w.heap.size + 1) sa
  obtain ⟨wb, hwb⟩ : ∃ wb, wa.alloc (.cells (askCells a ah ak) 40) = wb := ⟨_, rfl⟩
  rw [hwb] at a1
  have sb : wb.heap.size = w.heap.size + 1 + 1 := by rw [← hwb]; simp [sa]
  have bb : Below wa.heap.size wa wb := by rw [← hwb]; exact (Below.refl _ _).alloc (Nat.le_refl _) _
  have x1 := row_at wb #[.int .i64 x.exc, .slice xh.1 xh.2.1 xh.2.2, .slice xk.1 xk.2.1 xk.2.2, .slice xt.1 xt.2.1 xt.2.2] 46 (w.heap.size + 1 + 1) sb
  obtain ⟨w0, hw0⟩ : ∃ w0, wb.alloc (.cells #[.int .i64 x.exc, .slice xh.1 xh.2.1 xh.2.2, .slice xk.1 xk.2.1 xk.2.2, .slice xt.1 xt.2.1 xt.2.2] 46) = w0 := ⟨_, rfl⟩
  rw [hw0] at x1
  have b0 : Below wb.heap.size wb w0 := by rw [← hw0]; exact (Below.refl _ _).alloc (Nat.le_refl _) _
  have HB0 : Hid (Below w.heap.size w w0) := Lib.hid ((ba.trans (bb.mono ba.size)).trans (b0.mono (by omega)))
  have HC := Lib.hid (row_later (row_later c1 bb) b0)
  have HA := Lib.hid (row_later a1 b0)
  have HX := Lib.hid x1
  have HAI := Lib.hid (ha.below HB0.out)
  have HXI := Lib.hid (hx.below HB0.out)
  have hn0 : w.heap.size + 1 + 1 < w0.heap.size := row_lt x1
  unfold askCells at hwb
  have HW : Hid (((w.alloc (.cells #[u8v u, .int .i64 g, .int .i64 f, .int .i64 t] 23)).alloc (.cells #[.int .i64 a.code, .int .i64 a.addr, .int .i64 a.count, .int .i64 a.to, .slice ah.1 ah.2.1 ah.2.2, .slice ak.1 ak.2.1 ak.2.2, u16v a.and_, u16v a.or_] 40)).alloc (.cells #[.int .i64 x.exc, .slice xh.1 xh.2.1 xh.2.2, .slice xk.1 xk.2.1 xk.2.2, .slice xt.1 xt.2.1 xt.2.2] 46) = w0) := Lib.hid (by rw [hwa, hwb, hw0])
  clear c1 hwa sa ba a1 hwb sb bb x1 hw0 b0 ha hx
  go_enter Tryz.func5, Tryz.ntmps5
  go_wp2_with fail
  rw [HW.out]
  clear HW
  refine (awake8_any w0).mono ?_
  rintro e w1 ⟨rfl, hbe1⟩
  obtain ⟨p0, p1, p2, p3⟩ := row_quad (row_later HC.out hbe1)
  go_wp2_with fail
  refine (new8_any u g f t w1).mono ?_
  rintro e w2 ⟨hb2, hcase⟩
  have hbe2 := hbe1.trans (hb2.mono hbe1.size)
  clear p0 p1 p2 p3
  rcases hcase with ⟨c, q, hu, hg, hf, ht, hrc, he, hqw, hm⟩ | ⟨hno, he⟩
  · obtain rfl := he
    have hqw0 : w0.heap.size ≤ q := Nat.le_trans hbe1.size hqw
    have hsm := cfg_small hrc
    subst hu hg hf ht
    clear hb2 hbe1 hqw
    have ra := row_later HA.out hbe2
    obtain ⟨r0, r1, r2, r3, r4, r5, r6, r7⟩ := row_eight (show w2.heap[w.heap.size + 1]? = some (.cells #[_, _, _, _, _, _, _, _] _ (0, 0)) from ra)
    have HL := Lib.hid (rlarge_any a ah ak w2 (HAI.out.below hbe2))
    rw [askV_eq] at HL
    obtain ⟨LA, hLA⟩ : ∃ LA, (decide (300 < a.words.length) || decide (3000 < a.bits.length)) = LA := ⟨_, rfl⟩
    rw [hLA] at HL
    clear ra hLA
    go_wp2_with fail
    refine HL.out.mono ?_
    rintro e w3 ⟨rfl, hb3⟩
    have hm3 := hm.below hb3
    have hbe3 := hbe2.trans (hb3.mono hbe2.size)
    clear HL hb3 hm hbe2 r0 r1 r2 r3 r4 r5 r6 r7
    cases LA with
    | true =>
      go_wp2_with fail
      go_ret
      exact ⟨rfl, HB0.out.trans (hbe3.mono HB0.out.size)⟩
    | false =>
    obtain ⟨p0, p1, p2, p3⟩ := row_quad (row_later HX.out hbe3)
    have HL := Lib.hid (rlarge7_any x xh xk xt w3 (HXI.out.below hbe3))
    rw [ansV_eq] at HL
    cases hLX : An.large x with
    | true =>
      rw [hLX] at HL
      go_wp2_with fail
      refine HL.out.mono ?_
      rintro e w4 ⟨rfl, hb4⟩
      have hbe4 := hbe3.trans (hb4.mono hbe3.size)
      go_wp2_with fail
      go_ret
      exact ⟨rfl, HB0.out.trans (hbe4.mono HB0.out.size)⟩
    | false =>
    rw [hLX] at HL
    have htn : xt.2.1 ≤ 1000000 := by have h1 := An.large_few8 hLX; have h2 := HXI.out.tn; omega
    clear hLX
    go_wp2_with fail
    refine HL.out.mono ?_
    rintro e w4 ⟨rfl, hb4⟩
    have hm4 := hm3.below hb4
    have hbe4 := hbe3.trans (hb4.mono hbe3.size)
    clear HL hb4 hm3 hbe3 p0 p1 p2 p3
    obtain ⟨p0, p1, p2, p3⟩ := row_quad (row_later HX.out hbe4)
    have ra := row_later HA.out hbe4
    obtain ⟨r0, r1, r2, r3, r4, r5, r6, r7⟩ := row_eight (show w4.heap[w.heap.size + 1]? = some (.cells #[_, _, _, _, _, _, _, _] _ (0, 0)) from ra)
    have HB7 := Lib.hid (bytes7_any a x ah ak xh xk xt w4 (HAI.out.below hbe4) (HXI.out.below hbe4) htn)
    rw [askV_eq, ansV_eq] at HB7
    clear ra
    go_wp2_with fail
    refine HB7.out.mono ?_
    rintro e w5 ⟨A5, n5, c5, rfl, hn5, hc5, hmx5, hl5, hb5⟩
    have hm5 := hm4.below hb5
    have hbe5 := hbe4.trans (hb5.mono hbe4.size)
    clear HB7 hb5 hm4 hbe4 p0 p1 p2 p3 r0 r1 r2 r3 r4 r5 r6 r7 htn
    rcases wb_codes a x with ⟨hcd, hrx, hra⟩ | hcd
    · rw [hcd]
      have ra := row_later HA.out hbe5
      obtain ⟨r0, r1, r2, r3, r4, r5, r6, r7⟩ := row_eight (show w5.heap[w.heap.size + 1]? = some (.cells #[_, _, _, _, _, _, _, _] _ (0, 0)) from ra)
      have HST := Lib.hid (start8_any (fun b => b = q) q q c ⟨c.gap, .idle⟩ a ah ak w5 hm5 (HAI.out.below hbe5))
      rw [askV_eq, Ms.start_idle c hra] at HST
      clear ra hcd
      go_wp2_with fail
      refine HST.out.mono ?_
      rintro e w6 ⟨rfl, hm6, hb6⟩
      have hbe6 := but_up hbe5 hb6 hqw0
      have hl6 : Lies u8v w6 A5 (An.bytes a x) := hl5.but hb6 (fun b o s e h0 hm => hm5.far hl5 (by
        have h1 := Ms.heard_there (c := c) hrx
        have h2 := (An.right_parts hrx).1
        have h3 : 2 ≤ (An.text a x).length := (An.guess_text h2 (An.shape hrx)).2.1
        unfold An.bytes
        rw [if_pos hrx]
        exact h3) b o s e (List.mem_singleton.1 hm))
      clear HST hb6 hm5 hbe5 hl5 r0 r1 r2 r3 r4 r5 r6 r7
      obtain ⟨p0, p1, p2, p3⟩ := row_quad (row_later HC.out hbe6)
      have i1 : 2 * (c.wait : Int) < 9223372036854775808 := by omega
      have i2 : (c.gap : Int) - 1 < 9223372036854775808 := by omega
      by_cases hgw : (c.gap : Int) > 2 * (c.wait : Int) - 1
      · go_wp2_with fail
        go_ret
        exact ⟨rfl, HB0.out.trans (hbe6.mono HB0.out.size)⟩
      have HGW : Hid (c.gap ≤ 2 * c.wait - 1) := Lib.hid (by omega)
      have hgd : decide (2 * (c.wait : Int) - 1 < (c.gap : Int)) = false := by simp; omega
      clear hgw
      go_wp2_with fail
      have hok : Ms.Ok c (.wants 0 0 a) := .inr ⟨a, ⟨rfl, by omega, by omega⟩, hra⟩
      refine (ltick8 w6 hrc hm6 hok (Ms.tick_at_once c a)).mono ?_
      rintro e v7 ⟨B7, n7, cc7, KK7, xe7, yh7, yk7, yt7, rfl, hk7, hxe7, hn7, hc7, hmx7, hl7, hy7, hmm7, hbu7⟩
      have hbe7v := but_up hbe6 hbu7 hqw0
      have hl67 : Lies u8v v7 A5 (An.bytes a x) := hl6.but hbu7 (fun b o s e h0 hm => hm6.far hl6 (by
        have h2 := (An.right_parts hrx).1
        have h3 : 2 ≤ (An.text a x).length := (An.guess_text h2 (An.shape hrx)).2.1
        unfold An.bytes
        rw [if_pos hrx]
        exact h3) b o s e (List.mem_singleton.1 hm))
      have HN7 : Hid (0 < n7) := Lib.hid (by have := (Ms.sent_pos c hra).1; omega)
      clear hk7 hxe7 hn7 hc7 hmx7 hl7 hy7 hbu7 hm6 hbe6 hl6 hgd p0 p1 p2 p3
      have HBF : Hid ((An.bytes a x).length ≤ 60000) := Lib.hid (by
        have h2 := (An.right_parts hrx).1
        have h3 : (An.text a x).length ≤ 253 := (An.guess_text h2 (An.shape hrx)).2.2
        unfold An.bytes
        rw [if_pos hrx]
        omega)
      have hba : Below v7.heap.size v7 (v7.alloc (.cells #[.int .i64 KK7, .int .i64 xe7, .slice yh7.1 yh7.2.1 yh7.2.2, .slice yk7.1 yk7.2.1 yk7.2.2, .slice yt7.1 yt7.2.1 yt7.2.2] 48)) := (Below.refl _ _).alloc (Nat.le_refl _) _
      have hbe7 := hbe7v.trans (hba.mono hbe7v.size)
      have hm7 := hmm7.below hba
      have hl7 := hl67.below hba (Nat.le_refl _)
      obtain ⟨p0, p1, p2, p3⟩ := row_quad (row_later HC.out hbe7v)
      have hcl : w.heap.size < v7.heap.size := by have := hbe7v.size; omega
      go_wp2_with fail
      obtain ⟨w7, hw7⟩ : ∃ w7, v7.alloc (.cells #[.int .i64 KK7, .int .i64 xe7, .slice yh7.1 yh7.2.1 yh7.2.2, .slice yk7.1 yk7.2.1 yk7.2.2, .slice yt7.1 yt7.2.1 yt7.2.2] 48) = w7 := ⟨_, rfl⟩
      rw [hw7] at hbe7 hm7 hl7 ⊢
      clear hba hbe7v hmm7 hl67 p0 p1 p2 p3 hcl
      have HB3 := Lib.hid (bytes3_any c.unit A5 n5 c5 (An.bytes a x) hn5 (by rw [← hn5]; exact HBF.out) w7 hl7)
      refine HB3.out.mono ?_
      rintro e w8 ⟨A8, n8, c8, rfl, hn8, hown8, hb8⟩
      have hm8 := hm7.below hb8
      have hbe8 := hbe7.trans (hb8.mono hbe7.size)
      have ho8 := own_at hown8
      obtain ⟨r, hr⟩ : ∃ r, Rtu.bytes c.unit (An.bytes a x) = r := ⟨_, rfl⟩
      have hrt : r = Rtu.bytes c.unit (An.text a x) := by
        rw [← hr]
        unfold An.bytes
        rw [if_pos hrx]
      have hhe : Ms.heard c a r = some x ∧ 4 ≤ r.length ∧ r.length ≤ 256 := by rw [hrt]; exact Ms.heard_there hrx
      rw [hr] at hn8 ho8 hown8
      have hrne : r ≠ [] := fun e => by have h1 := hhe.2.1; rw [e] at h1; simp at h1
      have hfar : ∀ g o s, A8 = some ⟨g, o, s⟩ → 0 < r.length → g ≠ q := fun g o s e _ => by
        subst e
        have h1 := (hown8.lt g rfl).1
        have h2 := hm7.lt
        omega
      have htk : Ms.take ⟨0, .waits 0 1 a []⟩ r = ⟨0, .waits 0 1 a r⟩ := by
        unfold Ms.take
        rw [if_neg hrne]
        show (⟨0, .waits 0 1 a (([] ++ r).take 300)⟩ : Mst) = _
        rw [List.nil_append, List.take_of_length_le (by omega)]
      have HT := Lib.hid (take8_any (fun b => b = q) q q c ⟨0, .waits 0 1 a []⟩ A8 n8 c8 r hn8 ho8.1 (by omega) w8 hm8 hfar ho8.2.2.2)
      rw [htk] at HT
      generalize Rtu.codeP (An.bytes a x) = CP
      have HHE := Lib.hid hhe
      have HRN := Lib.hid hrne
      clear HB3 hb8 hm7 hbe7 hl7 hown8 ho8 hr hrt hfar htk hhe hrne hn8 hw7
      go_wp2_with fail
      refine HT.out.mono ?_
      rintro e w9 ⟨rfl, hb9, D, hD, hm9⟩
      have hDw : w0.heap.size ≤ D := by
        rcases hD with rfl | h
        · exact hqw0
        · exact Nat.le_trans hbe8.size h
      have hbe9 := but_up2 hbe8 hb9 hqw0 hqw0
      clear HT hb9 hm8 hbe8 hD
      generalize hS : (fun g => (fun b => b = q) g ∨ g = D) = S at *
      go_wp2_with fail
      have HM9 := Lib.hid hm9
      have HBE9 := Lib.hid hbe9
      have HQ0 := Lib.hid hqw0
      have HOK : Hid (∀ j, j < c.gap → Ms.Ok c (.waits j 1 a r)) := Lib.hid (fun j hj => .inr ⟨a, ⟨rfl, by have := HGW.out; omega, Nat.le_refl _, by omega, by have := HHE.out.2.2; omega, fun e => absurd e HRN.out⟩, hra⟩)
      have HRC := Lib.hid hrc
      have HGS : Hid (1 ≤ c.gap ∧ c.gap ≤ 20) := Lib.hid ⟨hsm.1, hsm.2.1⟩
      clear hm9 hbe9 hqw0 hra hrx hsm hok hS hDw hrc
      go_loopw [16] (fun i wr => ∃ j : Nat, j ≤ c.gap ∧ i = .int .i64 j ∧ ((j < c.gap ∧ LMAt wr S q D c ⟨j, .waits j 1 a r⟩) ∨ (j = c.gap ∧ LMAt wr S q D c ⟨c.gap, .idle⟩)) ∧ But [q] w9 wr) (fun i _ => c.gap - (intOf i).toNat)
      case atStart => exact ⟨0, Nat.zero_le _, rfl, .inl ⟨by have := HGS.out; omega, HM9.out⟩, But.refl _ _⟩
      case round =>
        obtain ⟨j, hj, rfl, hcase, hbw⟩ := hrel
        have hbwr := but_up HBE9.out hbw HQ0.out
        obtain ⟨p0, p1, p2, p3⟩ := row_quad (row_later HC.out hbwr)
        have hcl : w.heap.size < wr.heap.size := by have := hbwr.size; omega
        have HBWR := Lib.hid hbwr
        have HBW := Lib.hid hbw
        clear hbwr hbw
        rcases hcase with ⟨hlt, hm⟩ | ⟨rfl, hm⟩
        · have ilt : (j : Int) < (c.gap : Int) := by omega
          have j3 : (j : Int) + 1 < 9223372036854775808 := by have := HGS.out; omega
          by_cases hl : j + 1 < c.gap
          · have hs := Ms.tick_quiet (c := c) (i := j) (t := 1) (a := a) HRN.out hl HGW.out
            have HTK := Lib.hid (ltick8 wr HRC.out hm (HOK.out j hlt) hs)
            have j1 : decide ((j : Int) < (c.gap : Int) - 1) = true := by simp; omega
            have j2 : ((j : Int) == (c.gap : Int) - 1) = false := by rw [beq_eq_false_iff_ne]; omega
            have HL := Lib.hid hl
            clear hm hs hl hlt
            go_wp2_with fail
            refine HTK.out.mono ?_
            rintro e vr ⟨B, n, cc, KK, xe, yh, yk, yt, rfl, hk, hxe, hn, hc, hmx, hly, hy, hmm, hbu⟩
            obtain rfl : (0 : Int) = KK := hk
            obtain rfl : 0 = n := hn
            have hbv := but_up HBWR.out hbu HQ0.out
            have HMM := Lib.hid hmm
            have HBU := Lib.hid hbu
            have hba : Below vr.heap.size vr (vr.alloc (.cells #[.int .i64 0, .int .i64 xe, .slice yh.1 yh.2.1 yh.2.2, .slice yk.1 yk.2.1 yk.2.2, .slice yt.1 yt.2.1 yt.2.2] 48)) := (Below.refl _ _).alloc (Nat.le_refl _) _
            have HBA := Lib.hid hba
            clear p0 p1 p2 p3 hcl
            obtain ⟨p0, p1, p2, p3⟩ := row_quad (row_later HC.out hbv)
            have hcl : w.heap.size < vr.heap.size := by have := hbv.size; omega
            clear hxe hc hmx hly hy hmm hbu HTK hba hbv
            go_wp2_with fail
            have hj20 : j + 1 ≤ 20 ∧ j + 1 ≤ c.gap := by have := HL.out; have := HGS.out; omega
            go_roundw
            case rel => exact ⟨j + 1, by have := HL.out; omega, by go_num, .inl ⟨HL.out, HMM.out.below HBA.out⟩, (HBW.out.trans HBU.out).then_below HBA.out⟩
            case measure => simp [intOf]; omega
          · have hjg : j + 1 = c.gap := by omega
            have hs := Ms.tick_heard (c := c) (i := j) (t := 1) (a := a) HRN.out hjg HHE.out.1
            have HTK := Lib.hid (ltick8 wr HRC.out hm (HOK.out j hlt) hs)
            have j1 : decide ((j : Int) < (c.gap : Int) - 1) = false := by simp; omega
            have j2 : ((j : Int) == (c.gap : Int) - 1) = true := by rw [beq_iff_eq]; omega
            have HJ := Lib.hid hjg
            clear hm hs hl hlt hjg
            go_wp2_with fail
            refine HTK.out.mono ?_
            rintro e vr ⟨B, n, cc, KK, xe, yh, yk, yt, rfl, hk, hxe, hn, hc, hmx, hly, hy, hmm, hbu⟩
            obtain rfl : (1 : Int) = KK := hk
            obtain rfl : 0 = n := hn
            have hbv := but_up HBWR.out hbu HQ0.out
            have HMM := Lib.hid hmm
            have HBU := Lib.hid hbu
            have hba : Below vr.heap.size vr (vr.alloc (.cells #[.int .i64 1, .int .i64 xe, .slice yh.1 yh.2.1 yh.2.2, .slice yk.1 yk.2.1 yk.2.2, .slice yt.1 yt.2.1 yt.2.2] 48)) := (Below.refl _ _).alloc (Nat.le_refl _) _
            have HBA := Lib.hid hba
            have HSM : Hid (Calls Tryz.prog 27 #[.agg #[.int .i64 xe, .slice yh.1 yh.2.1 yh.2.2, .slice yk.1 yk.2.1 yk.2.2, .slice yt.1 yt.2.1 yt.2.2], .agg #[.int .i64 x.exc, .slice xh.1 xh.2.1 xh.2.2, .slice xk.1 xk.2.1 xk.2.2, .slice xt.1 xt.2.1 xt.2.2]] (vr.alloc (.cells #[.int .i64 1, .int .i64 xe, .slice yh.1 yh.2.1 yh.2.2, .slice yk.1 yk.2.1 yk.2.2, .slice yt.1 yt.2.1 yt.2.2] 48)) fun e w' => e = .returned (.bool true) ∧ Below (vr.alloc (.cells #[.int .i64 1, .int .i64 xe, .slice yh.1 yh.2.1 yh.2.2, .slice yk.1 yk.2.1 yk.2.2, .slice yt.1 yt.2.1 yt.2.2] 48)).heap.size (vr.alloc (.cells #[.int .i64 1, .int .i64 xe, .slice yh.1 yh.2.1 yh.2.2, .slice yk.1 yk.2.1 yk.2.2, .slice yt.1 yt.2.1 yt.2.2] 48)) w') := Lib.hid (by
              have h1 : (Ms.ans (MOut.done x)) = x := rfl
              rw [h1] at hy hxe
              have := same7_any x x yh yk yt xh xk xt (vr.alloc (.cells #[.int .i64 1, .int .i64 xe, .slice yh.1 yh.2.1 yh.2.2, .slice yk.1 yk.2.1 yk.2.2, .slice yt.1 yt.2.1 yt.2.2] 48)) (hy.below hba) ((HXI.out.below hbv).below hba)
              rw [An.same_self8, ansV_eq, ansV_eq, hxe] at this
              rw [hxe]
              exact this)
            clear p0 p1 p2 p3 hcl
            obtain ⟨p0, p1, p2, p3⟩ := row_quad (row_later HC.out hbv)
            obtain ⟨q0, q1, q2, q3⟩ := row_quad (row_later HX.out hbv)
            have hcl : w.heap.size < vr.heap.size := by have := hbv.size; omega
            have hcx : w.heap.size + 1 + 1 < vr.heap.size := by have := hbv.size; omega
            clear hxe hc hmx hly hy hmm hbu HTK hba hbv
            go_wp2_with fail
            refine HSM.out.mono ?_
            rintro e vz ⟨rfl, hbz⟩
            have HBZ := Lib.hid hbz
            clear hbz HSM p0 p1 p2 p3 q0 q1 q2 q3
            go_wp2_with fail
            have hj20 : j + 1 ≤ 20 ∧ j + 1 ≤ c.gap := by have := HJ.out; have := HGS.out; omega
            go_roundw
            case rel => exact ⟨j + 1, by have := HJ.out; omega, by go_num, .inr ⟨HJ.out, (HMM.out.below HBA.out).below HBZ.out⟩, ((HBW.out.trans HBU.out).then_below HBA.out).then_below HBZ.out⟩
            case measure => have := HJ.out; simp [intOf]; omega
        · have hdn : decide (0 < n7) = true := decide_eq_true HN7.out
          have HBZ := Lib.hid (lbusy8 wr hm)
          rw [show (Ms.code (⟨c.gap, .idle⟩ : Mst).st != 0) = false from rfl] at HBZ
          clear hm
          go_wp2_with fail
          refine HBZ.out.mono ?_
          rintro e wz ⟨rfl, rfl⟩
          go_wp2_with fail
          go_ret
          exact ⟨rfl, HB0.out.trans (HBWR.out.mono HB0.out.size)⟩
    · have hcd' : (((An.codeA a x : Nat) : Int) != 0) = true := by rw [bne_iff_ne]; omega
      clear hcd
      go_wp2_with fail
      go_ret
      exact ⟨rfl, HB0.out.trans (hbe5.mono HB0.out.size)⟩
  · obtain rfl := he
    clear hno hb2 hbe1
    go_wp2_with fail
    go_ret
    exact ⟨rfl, HB0.out.trans (hbe2.mono HB0.out.size)⟩
#print axioms good8_any
end Go.Proofs.YtlgmjnjhdamknaaGreat
