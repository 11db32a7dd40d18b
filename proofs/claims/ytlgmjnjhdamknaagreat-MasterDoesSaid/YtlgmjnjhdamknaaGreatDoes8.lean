
/- A part of the proof of the law MasterDoes. -/
import Derived.Test.YtlgmjnjhdamknaaGreatMem
import Derived.Test.YtlgmjnjhdamknaaGreatRtk
import Derived.Test.YtlgmjnjhdamknaaGreatRm
namespace Go.Proofs.YtlgmjnjhdamknaaGreat
open Go.RowKit

theorem An.same_self9 (x : Ans) : An.same x x = true := by unfold An.same; simp
theorem Ms.code_cases (s : MSt) : Ms.code s = 0 ∨ Ms.code s = 1 ∨ Ms.code s = 2 := by
  cases s with
  | idle => exact .inl rfl
  | wants => exact .inr (.inl rfl)
  | waits => exact .inr (.inr rfl)
theorem right_dec8 {c : Cfg} {u : UInt8} {g f t : Int} (hu : c.unit = u) (hg : (c.gap : Int) = g) (hf : (c.wait : Int) = f) (ht : (c.tries : Int) = t) (h : Ms.right c = true) :
    (decide (1 ≤ u.toNat) && decide (u.toNat ≤ 247) && decide (1 ≤ g) && decide (g ≤ 20) && decide (1 ≤ f) && decide (f ≤ 1000) && decide (1 ≤ t) && decide (t ≤ 5)) = true := by
  subst hu hg hf ht
  unfold Ms.right at h
  simp only [Bool.and_eq_true, decide_eq_true_eq] at h ⊢
  omega
theorem cfg_same8 {c d : Cfg} {u : UInt8} {g f t : Int} (hu : c.unit = u) (hg : (c.gap : Int) = g) (hf : (c.wait : Int) = f) (ht : (c.tries : Int) = t) (hu' : d.unit = u) (hg' : (d.gap : Int) = g) (hf' : (d.wait : Int) = f) (ht' : (d.tries : Int) = t) : d = c := by
  obtain ⟨a1, a2, a3, a4⟩ := c
  obtain ⟨b1, b2, b3, b4⟩ := d
  simp only at *
  subst hu hg hf ht hu'
  simp only [Cfg.mk.injEq, true_and]
  omega

set_option maxRecDepth 100000 in
set_option maxHeartbeats 4000000 in
theorem does8_any (u : UInt8) (g f t : Int) (A : Option Addr) (n cc : Nat) (l : List Act8) (hn : l.length = n) (hnb : n ≤ 140737488355328) (w : World) (h : 0 < n → ∃ b o, A = some ⟨b, o, none⟩ ∧ ActsAt w b o l) :
    Calls Tryz.prog 3 #[.agg #[u8v u, .int .i64 g, .int .i64 f, .int .i64 t], .slice A n cc] w fun e w' => e = .returned (.bool true) ∧ Below w.heap.size w w' := by
  have c1 := row_at w #[u8v u, .int .i64 g, .int .i64 f, .int .i64 t] 23 w.heap.size rfl
  obtain ⟨w0, hw0⟩ : ∃ wa, w.alloc (.cells #[u8v u, .int .i64 g, .int .i64 f, .int .i64 t] 23) = wa := ⟨_, rfl⟩
  rw [hw0] at c1
  have ba : Below w.heap.size w w0 := by rw [← hw0]; exact (Below.refl _ _).alloc (zq _) _
  have HB0 := qh ba
  have HC := qh c1
  have hn0 : w.heap.size < w0.heap.size := row_lt c1
  have HH : Hid (0 < n → ∃ b o, A = some ⟨b, o, none⟩ ∧ ActsAt w0 b o l) := qh (fun h0 => by
    obtain ⟨b, o, h1, h2⟩ := h h0
    exact ⟨b, o, h1, h2.below HB0.out⟩)
  have HN := qh hn
  have HW := qh hw0
  clear c1 hw0 ba h hn
  go_enter Tryz.func3, Tryz.ntmps3
  go_wp2_with fail
  rw [HW.out]
  clear HW
  refine (awake8_any w0).mono ?_
  rintro e w1 ⟨rfl, hbe1⟩
  go_wp2_with fail
  refine (small8_any A n cc l HN.out hnb w1 (fun h0 => by
    obtain ⟨b, o, h1, h2⟩ := HH.out h0
    exact ⟨b, o, h1, h2.below hbe1⟩)).mono ?_
  rintro e w2 ⟨V, k, rfl, rfl, hV⟩
  have HV := qh hV
  clear hV
  have hbe2 : Below w0.heap.size w0 (w1.drewN k) := drewN_below hbe1 k
  obtain ⟨w2, hw2⟩ : ∃ x, w1.drewN k = x := ⟨_, rfl⟩
  rw [hw2] at hbe2 ⊢
  clear hw2
  cases V with
  | false =>
    go_wp2_with fail
    go_ret
    exact ⟨rfl, HB0.out.trans (hbe2.mono HB0.out.size)⟩
  | true =>
  have HS := qh (HV.out rfl)
  clear HV
  obtain ⟨p0, p1, p2, p3⟩ := row_quad (row_later HC.out hbe2)
  have hcl : w.heap.size < w2.heap.size := by have := hbe2.size; omega
  go_wp2_with fail
  refine (new8_any u g f t w2).mono ?_
  rintro e w3 ⟨hb3, hcase⟩
  have hbe3 := hbe2.trans (hb3.mono hbe2.size)
  clear p0 p1 p2 p3 hcl
  obtain ⟨p0, p1, p2, p3⟩ := row_quad (row_later HC.out hbe3)
  have hcl : w.heap.size < w3.heap.size := by have := hbe3.size; omega
  have HRN := qh (rnew8w_any u g f t w3)
  rcases hcase with ⟨c, q, hu, hg, hf, ht, hrc, he, hqw, hm⟩ | ⟨hno, he⟩
  · obtain rfl := he
    go_wp2_with fail
    refine HRN.out.mono ?_
    rintro e w4 ⟨hb4, hcase4⟩
    have hbe4 := hbe3.trans (hb4.mono hbe3.size)
    rcases hcase4 with ⟨c', hu', hg', hf', ht', hrc', he', hlt4, hm'⟩ | ⟨hno', he'⟩
    · obtain rfl := he'
      obtain rfl : c = c' := (cfg_same8 hu hg hf ht hu' hg' hf' ht').symm
      have hdec := right_dec8 hu hg hf ht hrc
      have HRL : Hid (∀ W, Calls Tryz.prog 10 #[.agg #[u8v u, .int .i64 g, .int .i64 f, .int .i64 t]] W fun e w' => e = .returned (.bool true) ∧ Below W.heap.size W w') := qh (fun W => by have := right8_any u g f t W; rw [hdec] at this; exact this)
      have HRR : Hid (∀ W, Calls Tryz.prog 11 #[u8v u, .int .i64 g, .int .i64 f, .int .i64 t] W fun e w' => e = .returned (.bool true) ∧ w' = W) := qh (fun W => by have := rright8_any u g f t W; rw [hdec] at this; exact this)
      have hql := hm.lt
      have hq4 := Nat.lt_of_lt_of_le hql hb4.size
      have HDA : Hid (DoesAt w0 w4 q w3.heap.size c ⟨c.gap, .idle⟩ ⟨c.gap, .idle⟩) := qh ⟨⟨fun b => b = q ∨ b = w3.heap.size, q, hm.wide8 hb4 (.inl rfl) (.inl rfl) (fun g hg => hg.imp id (fun h => Nat.le_of_eq h.symm)) (fun g hg => by
        rcases hg with rfl | rfl
        · exact hq4
        · exact hlt4), hm' _ (.inr rfl) (fun g hg => by
        rcases hg with rfl | rfl
        · exact hq4
        · exact hlt4), Nat.ne_of_lt hql, .inl rfl⟩, .inl rfl, .inl rfl, hbe4, Nat.le_trans hbe2.size hqw, hbe3.size, Nat.ne_of_lt hql⟩
      clear hu' hg' hf' ht' hrc' hdec hm hm' hlt4 hql hq4 HRN hbe2 hb3 p0 p1 p2 p3 hcl
      obtain ⟨p0, p1, p2, p3⟩ := row_quad (row_later HC.out hbe4)
      have hcl : w.heap.size < w4.heap.size := by have := hbe4.size; omega
      have HS : Hid (∀ X, Below w4.heap.size w4 X → (X.cell? ⟨w.heap.size, 0, none⟩ = some (u8v u) ∧ X.cell? ⟨w.heap.size, 1, none⟩ = some (.int .i64 g) ∧ X.cell? ⟨w.heap.size, 2, none⟩ = some (.int .i64 f) ∧ X.cell? ⟨w.heap.size, 3, none⟩ = some (.int .i64 t) ∧ Below w4.heap.size w4 X)) := qh (fun X hX => by
        obtain ⟨p0, p1, p2, p3⟩ := row_quad (row_later HC.out (hbe4.trans (hX.mono hbe4.size)))
        exact ⟨p0, p1, p2, p3, hX⟩)
      have HD1 : Hid (Below w4.heap.size w4 w4.drew) := qh (drewN_below (Below.refl _ w4) 1)
      go_wp2_with fail
      have hHS := HS.out _ (Below.refl _ _)
      clear p0 p1 p2 p3
      go_region_held3 (fun X => (X.cell? ⟨w.heap.size, 0, none⟩ = some (u8v u) ∧ X.cell? ⟨w.heap.size, 1, none⟩ = some (.int .i64 g) ∧ X.cell? ⟨w.heap.size, 2, none⟩ = some (.int .i64 f) ∧ X.cell? ⟨w.heap.size, 3, none⟩ = some (.int .i64 t) ∧ Below w4.heap.size w4 X)) (first | with_reducible assumption | with_reducible exact HS.out _ HD1.out | fail) (first | (go_at_call 10; (with_reducible refine (HRL.out _).mono ?_); rintro e w5 ⟨rfl, hb5⟩; have hW := HD1.out.trans (hb5.mono HD1.out.size); have hc' := HS.out _ hW) | (go_at_call 11; (with_reducible refine (HRR.out _).mono ?_); rintro e w6 ⟨rfl, rfl⟩) | fail)
      have HD6 := qh (HDA.out.below hW)
      clear hc' HS HD1 hHS HRL HRR hW hbe4 hbe3 hb4
      have hqr6 := HD6.out.rstate.2
      go_wp2_with fail
      generalize w3.heap.size = qr at *
      have n300 : (n : Int) < 9223372036854775807 := by omega
      have HRC := qh hrc
      clear hu hg hf ht HC HDA hcl hrc hqw hqr6
      go_loopw [11] (fun i wr => ∃ (j : Nat) (m : Mst), j ≤ n ∧ i = .int .i64 j ∧ DoesAt w0 wr q qr c m m) (fun i _ => n - (intOf i).toNat)
      case atStart => exact ⟨0, _, Nat.zero_le _, rfl, HD6.out⟩
      case round =>
        obtain ⟨j, m, hj, rfl, hda⟩ := hrel
        by_cases hlt : j < n
        · obtain ⟨b, o, eA, hacts⟩ := HH.out (by omega)
          have hjl : j < l.length := by have := HN.out; omega
          obtain ⟨⟨hA, hn, hc⟩, ⟨kA, kn, kc⟩, ⟨dA, dn, dc⟩, y⟩ := hacts j hjl
          subst eA
          have y0 := (y.below hda.up).c0
          have hbl : b < wr.heap.size := World.block_lt_of_cell? _ _ y0
          have ilt : (j : Int) < (n : Int) := by omega
          have HY := qh y
          have HDA := qh hda
          have HBS2 : Hid (l[j].bs.length ≤ 100000) := qh (HS.out.2 j hjl)
          clear hacts y hda hlt
          generalize l[j] = act at *
          obtain ⟨K, a, bs⟩ := act
          have y0 : wr.cell? ⟨b, o + j * 10, none⟩ = some (.int .i64 K) := y0
          by_cases hk0 : K = 0
          · subst hk0
            obtain ⟨m', bs, ot, htk⟩ : ∃ m' bs ot, Ms.tick c m = (m', bs, ot) := ⟨_, _, _, rfl⟩
            have HT := qh (HDA.out.ltick HRC.out htk)
            have HTK := qh htk
            clear htk
            go_wp2_with fail
            refine HT.out.mono ?_
            rintro e v1 ⟨B, n1, c1, KK, xe, xh, xk, xt, rfl, hk, hx, ht1, hd1⟩
            obtain ⟨V1, hV1⟩ : ∃ V1, v1.alloc (.cells #[.int .i64 KK, .int .i64 xe, .slice xh.1 xh.2.1 xh.2.2, .slice xk.1 xk.2.1 xk.2.2, .slice xt.1 xt.2.1 xt.2.2] 48) = V1 := ⟨_, rfl⟩
            have hxr : (v1.alloc (.cells #[.int .i64 KK, .int .i64 xe, .slice xh.1 xh.2.1 xh.2.2, .slice xk.1 xk.2.1 xk.2.2, .slice xt.1 xt.2.1 xt.2.2] 48)).heap[v1.heap.size]? = _ := row_at v1 _ _ v1.heap.size rfl
            have hb1 : Below v1.heap.size v1 (v1.alloc (.cells #[.int .i64 KK, .int .i64 xe, .slice xh.1 xh.2.1 xh.2.2, .slice xk.1 xk.2.1 xk.2.2, .slice xt.1 xt.2.1 xt.2.2] 48)) := (Below.refl _ _).alloc (zq _) _
            rw [hV1] at hxr hb1
            have HR := qh ((hd1.below hb1).rtick HRC.out HTK.out)
            have HV1 := qh hV1
            have HXR := qh hxr
            have HK := qh hk
            have HX := qh hx
            have HT1 := qh (ht1.kept (Kept.below hb1))
            have hq1 : v1.heap.size ∉ [qr] := fun hm => by have h1 := List.mem_singleton.1 hm; have h2 := hd1.rstate.2; omega
            clear HT hV1 hxr hk hx ht1 hd1 hb1 y0 hbl
            go_wp2_with fail
            rw [HV1.out]
            refine HR.out.mono ?_
            rintro e v2 ⟨B2, n2, c2, KK2, yh, yk, yt, rfl, hk2, ht2, hd2, hkp, hbq⟩
            obtain rfl : KK = KK2 := HK.out.symm.trans hk2
            have HT1' := qh (HT1.out.kept hkp)
            have HT2 := qh ht2
            have HD2 := qh hd2
            have hxr2 := row_but HXR.out hbq hq1
            rw [ansV_eq]
            obtain ⟨ye, hye⟩ : ∃ ye, (Ms.ans ot).exc = ye := ⟨_, rfl⟩
            have HYE := qh hye
            rw [hye]
            obtain ⟨V2, hV2⟩ : ∃ V2, v2.alloc (.cells #[.int .i64 ye, .slice yh.1 yh.2.1 yh.2.2, .slice yk.1 yk.2.1 yk.2.2, .slice yt.1 yt.2.1 yt.2.2] 51) = V2 := ⟨_, rfl⟩
            have hyr : (v2.alloc (.cells #[.int .i64 ye, .slice yh.1 yh.2.1 yh.2.2, .slice yk.1 yk.2.1 yk.2.2, .slice yt.1 yt.2.1 yt.2.2] 51)).heap[v2.heap.size]? = _ := row_at v2 _ _ v2.heap.size rfl
            have hb2 : Below v2.heap.size v2 (v2.alloc (.cells #[.int .i64 ye, .slice yh.1 yh.2.1 yh.2.2, .slice yk.1 yk.2.1 yk.2.2, .slice yt.1 yt.2.1 yt.2.2] 51)) := (Below.refl _ _).alloc (zq _) _
            rw [hV2] at hyr hb2
            have HV2 := qh hV2
            have HYR := qh hyr
            have HXR2 := qh (row_later hxr2 hb2)
            have HT3 := qh (HT1'.out.kept (Kept.below hb2))
            have HT4 := qh (HT2.out.kept (Kept.below hb2))
            have HD3 := qh (HD2.out.below hb2)
            have HSA := qh (rsame8_any B B2 n1 n2 c1 c2 bs bs HT3.out.hn HT4.out.hn (Nat.le_trans HT3.out.hc HT3.out.hm) V2 HT3.out.hl HT4.out.hl)
            rw [show (bs == bs) = true from beq_self_eq_true _] at HSA
            clear HR hk2 ht2 hd2 hkp hbq hye hV2 hyr hb2 hxr2 HT1' HT2 HD2 hq1
            go_wp2_with fail
            rw [HV2.out]
            refine HSA.out.mono ?_
            rintro e v3 ⟨rfl, nq, rfl⟩
            have hb3 : Below V2.heap.size V2 (V2.drewN nq) := drewN_below (Below.refl _ _) nq
            generalize V2.drewN nq = V3 at *
            obtain ⟨⟨x0, x1, x2, x3, x4⟩, -⟩ := row_five8 (row_later HXR2.out hb3)
            obtain ⟨y0, y1, y2, y3⟩ := row_quad (row_later HYR.out hb3)
            have hvx : v1.heap.size < V3.heap.size := row_lt (row_later HXR2.out hb3)
            have hvy : v2.heap.size < V3.heap.size := row_lt (row_later HYR.out hb3)
            have HS7 := qh (rsame7_any (Ms.ans ot) (Ms.ans ot) xh xk xt yh yk yt V3 (HT3.out.kept (Kept.below hb3)).hx (HT4.out.kept (Kept.below hb3)).hx)
            rw [An.same_self9, ansV_eq, ansV_eq, HYE.out] at HS7
            obtain rfl : ye = xe := HYE.out.symm.trans HX.out
            have HXR4 := qh (row_later HXR2.out hb3)
            have HD4 := qh (HD3.out.below hb3)
            clear HSA hb3 HXR2 HYR HT3 HT4 HD3
            go_wp2_with fail
            refine HS7.out.mono ?_
            rintro e v4 ⟨rfl, hb4'⟩
            have HDZ := qh (HD4.out.below hb4')
            clear x0 x1 x2 x3 x4 y0 y1 y2 y3 hvx hvy
            obtain ⟨⟨x0, x1, x2, x3, x4⟩, -⟩ := row_five8 (row_later HXR4.out hb4')
            have hvx : v1.heap.size < v4.heap.size := row_lt (row_later HXR4.out hb4')
            clear hb4' HS7 HXR4 HD4
            go_wp2_with fail
            have hst := HDZ.out.rstate.1
            have hsl := HDZ.out.rstate.2
            have HD1 : Hid (Below v4.heap.size v4 v4.drew) := qh (drewN_below (Below.refl _ v4) 1)
            have HBS : Hid (Calls Tryz.prog 20 #[.pointer (some ⟨q, 0, none⟩)] v4.drew fun e w' => e = .returned (.bool (Ms.code m'.st != 0)) ∧ w' = v4.drew) := qh (HDZ.out.below HD1.out).lbusy
            have HDE := qh (HDZ.out.below HD1.out)
            have hcd := Ms.code_cases m'.st
            generalize Ms.code m'.st = CD at hst HBS hcd
            clear HD1
            rcases hcd with rfl | rfl | rfl
            · rw [show ((0 : Nat) != 0) = false from rfl] at HBS
              have hst2 : v4.cell? ⟨qr, 4, none⟩ = some (.int .i64 0) := hst
              clear hst
              have hst3 : v4.drew.cell? ⟨qr, 4, none⟩ = some (.int .i64 0) := hst2
              go_region_held3 (fun X => X.cell? ⟨qr, 4, none⟩ = some (.int .i64 0)) (first | with_reducible assumption | fail) (first | (go_at_call 20; (with_reducible refine HBS.out.mono ?_); rintro e w9 ⟨rfl, rfl⟩) | fail)
              go_wp2_with fail
              go_roundw
              case rel => exact ⟨j + 1, m', by omega, by go_num, HDE.out⟩
              case measure => simp [intOf]; omega
            · rw [show ((1 : Nat) != 0) = true from rfl] at HBS
              have hst2 : v4.cell? ⟨qr, 4, none⟩ = some (.int .i64 1) := hst
              clear hst
              have hst3 : v4.drew.cell? ⟨qr, 4, none⟩ = some (.int .i64 1) := hst2
              go_region_held3 (fun X => X.cell? ⟨qr, 4, none⟩ = some (.int .i64 1)) (first | with_reducible assumption | fail) (first | (go_at_call 20; (with_reducible refine HBS.out.mono ?_); rintro e w9 ⟨rfl, rfl⟩) | fail)
              go_wp2_with fail
              go_roundw
              case rel => exact ⟨j + 1, m', by omega, by go_num, HDE.out⟩
              case measure => simp [intOf]; omega
            · rw [show ((2 : Nat) != 0) = true from rfl] at HBS
              have hst2 : v4.cell? ⟨qr, 4, none⟩ = some (.int .i64 2) := hst
              clear hst
              have hst3 : v4.drew.cell? ⟨qr, 4, none⟩ = some (.int .i64 2) := hst2
              go_region_held3 (fun X => X.cell? ⟨qr, 4, none⟩ = some (.int .i64 2)) (first | with_reducible assumption | fail) (first | (go_at_call 20; (with_reducible refine HBS.out.mono ?_); rintro e w9 ⟨rfl, rfl⟩) | fail)
              go_wp2_with fail
              go_roundw
              case rel => exact ⟨j + 1, m', by omega, by go_num, HDE.out⟩
              case measure => simp [intOf]; omega
          · by_cases hk1 : K = 1
            · subst hk1
              have HSX : Hid (∀ X, Below w0.heap.size w0 X → (X.cell? ⟨b, o + j * 10 + 1, none⟩ = some (.int .i64 a.code) ∧ X.cell? ⟨b, o + j * 10 + 1 + 1, none⟩ = some (.int .i64 a.addr) ∧ X.cell? ⟨b, o + j * 10 + 1 + 2, none⟩ = some (.int .i64 a.count) ∧ X.cell? ⟨b, o + j * 10 + 1 + 3, none⟩ = some (.int .i64 a.to) ∧ X.cell? ⟨b, o + j * 10 + 1 + 4, none⟩ = some (.slice hA hn hc) ∧ X.cell? ⟨b, o + j * 10 + 1 + 5, none⟩ = some (.slice kA kn kc) ∧ X.cell? ⟨b, o + j * 10 + 1 + 6, none⟩ = some (u16v a.and_) ∧ X.cell? ⟨b, o + j * 10 + 1 + 7, none⟩ = some (u16v a.or_))) := qh (fun X hX => by
                have z := HY.out.below hX
                exact ⟨z.c1, z.c2, z.c3, z.c4, z.c5, z.c6, z.c7, z.c8⟩)
              have HD1 : Hid (Below wr.heap.size wr wr.drew) := qh (drewN_below (Below.refl _ wr) 1)
              have HDD := qh (HDA.out.below HD1.out)
              have HLS := qh (HDD.out.lstart HRC.out a (hA, hn, hc) (kA, kn, kc) (HY.out.below HDD.out.up).ins)
              have HRS : Hid (∀ X, DoesAt w0 X q qr c (Ms.start m a).1 m → Calls Tryz.prog 17 #[.pointer (some ⟨qr, 0, none⟩), askV a (hA, hn, hc) (kA, kn, kc)] X fun e w' => e = .returned (.int .i64 (((Ms.start m a).2 : Nat) : Int)) ∧ DoesAt w0 w' q qr c (Ms.start m a).1 (Ms.start m a).1) := qh (fun X hX => hX.rstart HRC.out a (hA, hn, hc) (kA, kn, kc) (HY.out.below hX.up).ins)
              rw [askV_eq] at HLS HRS
              generalize Ms.start m a = r at HLS HRS
              obtain ⟨m', sc⟩ := r
              go_wp2_with fail
              have hHS := HSX.out _ HDA.out.up
              clear y0
              go_region_held3 (fun X => (X.cell? ⟨b, o + j * 10 + 1, none⟩ = some (.int .i64 a.code) ∧ X.cell? ⟨b, o + j * 10 + 1 + 1, none⟩ = some (.int .i64 a.addr) ∧ X.cell? ⟨b, o + j * 10 + 1 + 2, none⟩ = some (.int .i64 a.count) ∧ X.cell? ⟨b, o + j * 10 + 1 + 3, none⟩ = some (.int .i64 a.to) ∧ X.cell? ⟨b, o + j * 10 + 1 + 4, none⟩ = some (.slice hA hn hc) ∧ X.cell? ⟨b, o + j * 10 + 1 + 5, none⟩ = some (.slice kA kn kc) ∧ X.cell? ⟨b, o + j * 10 + 1 + 6, none⟩ = some (u16v a.and_) ∧ X.cell? ⟨b, o + j * 10 + 1 + 7, none⟩ = some (u16v a.or_))) (first | with_reducible assumption | with_reducible exact HSX.out _ HDD.out.up | fail) (first | (go_at_call 16; (with_reducible refine HLS.out.mono ?_); rintro e v1 ⟨rfl, hd1⟩; have hc' := HSX.out _ hd1.up; have hz1 : b < v1.heap.size := World.block_lt_of_cell? _ _ hc'.1) | (go_at_call 17; (with_reducible refine (HRS.out _ hd1).mono ?_); rintro e v2 ⟨rfl, hd2⟩; have hc2' := HSX.out _ hd2.up; have hz2 : b < v2.heap.size := World.block_lt_of_cell? _ _ hc2'.1) | fail)
              have HDZ := qh hd2
              have HSC : Hid (((sc : Int) == (sc : Int)) = true) := qh (beq_self_eq_true _)
              clear hd1 hd2 hc' hc2' hHS HSX HLS HRS hz1 hz2
              go_wp2_with fail
              have hst := HDZ.out.rstate.1
              have hsl := HDZ.out.rstate.2
              have HD1 : Hid (Below v2.heap.size v2 v2.drew) := qh (drewN_below (Below.refl _ v2) 1)
              have HBS : Hid (Calls Tryz.prog 20 #[.pointer (some ⟨q, 0, none⟩)] v2.drew fun e w' => e = .returned (.bool (Ms.code m'.st != 0)) ∧ w' = v2.drew) := qh (HDZ.out.below HD1.out).lbusy
              have HDE := qh (HDZ.out.below HD1.out)
              have hcd := Ms.code_cases m'.st
              generalize Ms.code m'.st = CD at hst HBS hcd
              clear HD1
              rcases hcd with rfl | rfl | rfl
              · rw [show ((0 : Nat) != 0) = false from rfl] at HBS
                have hst2 : v2.cell? ⟨qr, 4, none⟩ = some (.int .i64 0) := hst
                clear hst
                have hst3 : v2.drew.cell? ⟨qr, 4, none⟩ = some (.int .i64 0) := hst2
                go_region_held3 (fun X => X.cell? ⟨qr, 4, none⟩ = some (.int .i64 0)) (first | with_reducible assumption | fail) (first | (go_at_call 20; (with_reducible refine HBS.out.mono ?_); rintro e w9 ⟨rfl, rfl⟩) | fail)
                go_wp2_with fail
                go_roundw
                case rel => exact ⟨j + 1, m', by omega, by go_num, HDE.out⟩
                case measure => simp [intOf]; omega
              · rw [show ((1 : Nat) != 0) = true from rfl] at HBS
                have hst2 : v2.cell? ⟨qr, 4, none⟩ = some (.int .i64 1) := hst
                clear hst
                have hst3 : v2.drew.cell? ⟨qr, 4, none⟩ = some (.int .i64 1) := hst2
                go_region_held3 (fun X => X.cell? ⟨qr, 4, none⟩ = some (.int .i64 1)) (first | with_reducible assumption | fail) (first | (go_at_call 20; (with_reducible refine HBS.out.mono ?_); rintro e w9 ⟨rfl, rfl⟩) | fail)
                go_wp2_with fail
                go_roundw
                case rel => exact ⟨j + 1, m', by omega, by go_num, HDE.out⟩
                case measure => simp [intOf]; omega
              · rw [show ((2 : Nat) != 0) = true from rfl] at HBS
                have hst2 : v2.cell? ⟨qr, 4, none⟩ = some (.int .i64 2) := hst
                clear hst
                have hst3 : v2.drew.cell? ⟨qr, 4, none⟩ = some (.int .i64 2) := hst2
                go_region_held3 (fun X => X.cell? ⟨qr, 4, none⟩ = some (.int .i64 2)) (first | with_reducible assumption | fail) (first | (go_at_call 20; (with_reducible refine HBS.out.mono ?_); rintro e w9 ⟨rfl, rfl⟩) | fail)
                go_wp2_with fail
                go_roundw
                case rel => exact ⟨j + 1, m', by omega, by go_num, HDE.out⟩
                case measure => simp [intOf]; omega
            · have hk0' : (K == 0) = false := by rw [beq_eq_false_iff_ne]; exact hk0
              have hk1' : (K == 1) = false := by rw [beq_eq_false_iff_ne]; exact hk1
              clear hk0 hk1
              have y9 : wr.cell? ⟨b, o + j * 10 + 9, none⟩ = some (.slice dA dn dc) := (HY.out.below HDA.out.up).c9
              have HLT := qh (HDA.out.ltake dA dn dc bs HY.out.bn HY.out.bc (by have h1 : bs.length = dn := HY.out.bn; have h2 : bs.length ≤ 100000 := HBS2.out; omega) HY.out.bl)
              go_wp2_with fail
              refine HLT.out.mono ?_
              rintro e v1 ⟨rfl, hd1⟩
              have z9 : v1.cell? ⟨b, o + j * 10 + 9, none⟩ = some (.slice dA dn dc) := (HY.out.below hd1.up).c9
              have hz1 : b < v1.heap.size := World.block_lt_of_cell? _ _ z9
              have HRT := qh (hd1.rtake dA dn dc bs HY.out.bn HY.out.bc (by have h1 : bs.length = dn := HY.out.bn; have h2 : bs.length ≤ 100000 := HBS2.out; omega) HY.out.bl)
              clear hd1 HLT y9 y0 hbl
              generalize Ms.take m bs = m' at HRT
              go_wp2_with fail
              refine HRT.out.mono ?_
              rintro e v2 ⟨rfl, hd2⟩
              have HDZ := qh hd2
              clear hd2 z9 hz1 HRT
              go_wp2_with fail
              have hst := HDZ.out.rstate.1
              have hsl := HDZ.out.rstate.2
              have HD1 : Hid (Below v2.heap.size v2 v2.drew) := qh (drewN_below (Below.refl _ v2) 1)
              have HBS : Hid (Calls Tryz.prog 20 #[.pointer (some ⟨q, 0, none⟩)] v2.drew fun e w' => e = .returned (.bool (Ms.code m'.st != 0)) ∧ w' = v2.drew) := qh (HDZ.out.below HD1.out).lbusy
              have HDE := qh (HDZ.out.below HD1.out)
              have hcd := Ms.code_cases m'.st
              generalize Ms.code m'.st = CD at hst HBS hcd
              clear HD1
              rcases hcd with rfl | rfl | rfl
              · rw [show ((0 : Nat) != 0) = false from rfl] at HBS
                have hst2 : v2.cell? ⟨qr, 4, none⟩ = some (.int .i64 0) := hst
                clear hst
                have hst3 : v2.drew.cell? ⟨qr, 4, none⟩ = some (.int .i64 0) := hst2
                go_region_held3 (fun X => X.cell? ⟨qr, 4, none⟩ = some (.int .i64 0)) (first | with_reducible assumption | fail) (first | (go_at_call 20; (with_reducible refine HBS.out.mono ?_); rintro e w9 ⟨rfl, rfl⟩) | fail)
                go_wp2_with fail
                go_roundw
                case rel => exact ⟨j + 1, m', by omega, by go_num, HDE.out⟩
                case measure => simp [intOf]; omega
              · rw [show ((1 : Nat) != 0) = true from rfl] at HBS
                have hst2 : v2.cell? ⟨qr, 4, none⟩ = some (.int .i64 1) := hst
                clear hst
                have hst3 : v2.drew.cell? ⟨qr, 4, none⟩ = some (.int .i64 1) := hst2
                go_region_held3 (fun X => X.cell? ⟨qr, 4, none⟩ = some (.int .i64 1)) (first | with_reducible assumption | fail) (first | (go_at_call 20; (with_reducible refine HBS.out.mono ?_); rintro e w9 ⟨rfl, rfl⟩) | fail)
                go_wp2_with fail
                go_roundw
                case rel => exact ⟨j + 1, m', by omega, by go_num, HDE.out⟩
                case measure => simp [intOf]; omega
              · rw [show ((2 : Nat) != 0) = true from rfl] at HBS
                have hst2 : v2.cell? ⟨qr, 4, none⟩ = some (.int .i64 2) := hst
                clear hst
                have hst3 : v2.drew.cell? ⟨qr, 4, none⟩ = some (.int .i64 2) := hst2
                go_region_held3 (fun X => X.cell? ⟨qr, 4, none⟩ = some (.int .i64 2)) (first | with_reducible assumption | fail) (first | (go_at_call 20; (with_reducible refine HBS.out.mono ?_); rintro e w9 ⟨rfl, rfl⟩) | fail)
                go_wp2_with fail
                go_roundw
                case rel => exact ⟨j + 1, m', by omega, by go_num, HDE.out⟩
                case measure => simp [intOf]; omega
        · obtain rfl : n = j := by omega
          have HB9 := qh hda.up
          clear hlt hda
          go_wp2_with fail
          go_ret
          exact ⟨rfl, HB0.out.trans (HB9.out.mono HB0.out.size)⟩
    · exfalso
      rw [right_dec8 hu hg hf ht hrc] at hno'
      cases hno'
  · obtain rfl := he
    go_wp2_with fail
    refine HRN.out.mono ?_
    rintro e w4 ⟨hb4, hcase4⟩
    have hbe4 := hbe3.trans (hb4.mono hbe3.size)
    rcases hcase4 with ⟨c', hu', hg', hf', ht', hrc', he', hlt4, hm'⟩ | ⟨hno', he'⟩
    · exfalso
      rw [right_dec8 hu' hg' hf' ht' hrc'] at hno
      cases hno
    · obtain rfl := he'
      have HRL : Hid (∀ W, Calls Tryz.prog 10 #[.agg #[u8v u, .int .i64 g, .int .i64 f, .int .i64 t]] W fun e w' => e = .returned (.bool false) ∧ Below W.heap.size W w') := qh (fun W => by have := right8_any u g f t W; rw [hno] at this; exact this)
      have HRR : Hid (∀ W, Calls Tryz.prog 11 #[u8v u, .int .i64 g, .int .i64 f, .int .i64 t] W fun e w' => e = .returned (.bool false) ∧ w' = W) := qh (fun W => by have := rright8_any u g f t W; rw [hno] at this; exact this)
      clear hno hno' HRN hbe2 hb3 p0 p1 p2 p3 hcl
      obtain ⟨p0, p1, p2, p3⟩ := row_quad (row_later HC.out hbe4)
      have hcl : w.heap.size < w4.heap.size := by have := hbe4.size; omega
      have HS : Hid (∀ X, Below w4.heap.size w4 X → (X.cell? ⟨w.heap.size, 0, none⟩ = some (u8v u) ∧ X.cell? ⟨w.heap.size, 1, none⟩ = some (.int .i64 g) ∧ X.cell? ⟨w.heap.size, 2, none⟩ = some (.int .i64 f) ∧ X.cell? ⟨w.heap.size, 3, none⟩ = some (.int .i64 t) ∧ Below w4.heap.size w4 X)) := qh (fun X hX => by
        obtain ⟨p0, p1, p2, p3⟩ := row_quad (row_later HC.out (hbe4.trans (hX.mono hbe4.size)))
        exact ⟨p0, p1, p2, p3, hX⟩)
      have HD1 : Hid (Below w4.heap.size w4 w4.drew) := qh (drewN_below (Below.refl _ w4) 1)
      go_wp2_with fail
      have hHS := HS.out _ (Below.refl _ _)
      clear p0 p1 p2 p3
      go_region_held3 (fun X => (X.cell? ⟨w.heap.size, 0, none⟩ = some (u8v u) ∧ X.cell? ⟨w.heap.size, 1, none⟩ = some (.int .i64 g) ∧ X.cell? ⟨w.heap.size, 2, none⟩ = some (.int .i64 f) ∧ X.cell? ⟨w.heap.size, 3, none⟩ = some (.int .i64 t) ∧ Below w4.heap.size w4 X)) (first | with_reducible assumption | with_reducible exact HS.out _ HD1.out | fail) (first | (go_at_call 10; (with_reducible refine (HRL.out _).mono ?_); rintro e w5 ⟨rfl, hb5⟩; have hW := HD1.out.trans (hb5.mono HD1.out.size); have hc' := HS.out _ hW) | (go_at_call 11; (with_reducible refine (HRR.out _).mono ?_); rintro e w6 ⟨rfl, rfl⟩) | fail)
      have hbe6 : Below w0.heap.size w0 w6 := hbe4.trans (hW.mono hbe4.size)
      clear hc' HS HD1 hHS HRL HRR
      go_wp2_with fail
      go_ret
      exact ⟨rfl, HB0.out.trans (hbe6.mono HB0.out.size)⟩
end Go.Proofs.YtlgmjnjhdamknaaGreat
