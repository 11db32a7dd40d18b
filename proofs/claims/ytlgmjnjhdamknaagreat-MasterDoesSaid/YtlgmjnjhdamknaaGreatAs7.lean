
/- A part of the proof of the law MasterDoes. -/
import Derived.Test.YtlgmjnjhdamknaaGreatMem
import Derived.Test.YtlgmjnjhdamknaaGreatBr7
namespace Go.Proofs.YtlgmjnjhdamknaaGreat
open Go.RowKit

theorem RdAt.ask {w w' : World} {q : Nat} {b : List UInt8} {a : Ask} {h k : Hd} (hr : RdAt w q b) (ha : AskIn w a h k) (hb : But [q] w w') : AskIn w' a h k := by
  obtain ⟨A, n, c, hrow, -⟩ := hr
  refine ha.but hb (fun b o s e h0 => far_row hrow ha.hl (fun x i v hv => ?_) b o s e (by rw [ha.hn]; exact h0)) (fun b o s e h0 => far_row hrow ha.kl (fun x i v hv => ?_) b o s e (by rw [ha.kn]; exact h0))
  all_goals (
    rcases i with _ | i
    · simp at hv; subst hv; simp
    · simp at hv)

set_option maxRecDepth 100000 in
set_option maxHeartbeats 1000000 in
theorem ranswer7_any (a : Ask) (h k : Hd) (q : Nat) (b : List UInt8) (w : World) (ha : AskIn w a h k) (hk : Ak.right a = true) (hr : RdAt w q b) :
    Calls Tryz.prog 180 #[.pointer (some ⟨q, 0, none⟩), askV a h k] w (RBPost w q (An.answerR a b)) := by
  obtain ⟨hc0, hc1⟩ := An.code_lt (An.ak_right hk).1
  obtain ⟨code, addr, count, to, words, bits, and_, or_⟩ := a
  have hc0 : 1 ≤ code := hc0
  have hc1 : code ≤ 43 := hc1
  obtain ⟨hra, hrx, hb0, hlt1, hlt0⟩ := two_new7 w #[.int .i64 code, .int .i64 addr, .int .i64 count, .int .i64 to, .slice h.1 h.2.1 h.2.2, .slice k.1 k.2.1 k.2.2, u16v and_, u16v or_] #[.int .i64 0, .slice none 0 0, .slice none 0 0, .slice none 0 0] 40 46
  have hqw := hr.lt
  have hr0 := hr.below hb0
  have hbu0 : But [q] w ((w.alloc (.cells #[.int .i64 code, .int .i64 addr, .int .i64 count, .int .i64 to, .slice h.1 h.2.1 h.2.2, .slice k.1 k.2.1 k.2.2, u16v and_, u16v or_] 40)).alloc (.cells #[.int .i64 0, .slice none 0 0, .slice none 0 0, .slice none 0 0] 46)) := But.of_below hb0 (zq _) [q]
  have HROW : Hid (∀ V, But [q] ((w.alloc (.cells #[.int .i64 code, .int .i64 addr, .int .i64 count, .int .i64 to, .slice h.1 h.2.1 h.2.2, .slice k.1 k.2.1 k.2.2, u16v and_, u16v or_] 40)).alloc (.cells #[.int .i64 0, .slice none 0 0, .slice none 0 0, .slice none 0 0] 46)) V → V.heap[w.heap.size]? = some (.cells #[.int .i64 code, .int .i64 addr, .int .i64 count, .int .i64 to, .slice h.1 h.2.1 h.2.2, .slice k.1 k.2.1 k.2.2, u16v and_, u16v or_] 40 (0, 0)) ∧ V.heap[w.heap.size + 1]? = some (.cells #[.int .i64 0, .slice none 0 0, .slice none 0 0, .slice none 0 0] 46 (0, 0)) ∧ But [q] w V) := qh (fun V hV => ⟨row_but hra hV (by simp; omega), row_but hrx hV (by simp; omega), hbu0.trans hV⟩)
  have HBD : Hid (∀ V, But [q] ((w.alloc (.cells #[.int .i64 code, .int .i64 addr, .int .i64 count, .int .i64 to, .slice h.1 h.2.1 h.2.2, .slice k.1 k.2.1 k.2.2, u16v and_, u16v or_] 40)).alloc (.cells #[.int .i64 0, .slice none 0 0, .slice none 0 0, .slice none 0 0] 46)) V → ∀ r, RdAt V q r → Calls Tryz.prog 184 #[.pointer (some ⟨q, 0, none⟩), .agg #[.int .i64 code, .int .i64 addr, .int .i64 count, .int .i64 to, .slice h.1 h.2.1 h.2.2, .slice k.1 k.2.1 k.2.2, u16v and_, u16v or_]] V (RBPost V q (An.bodyR ⟨code, addr, count, to, words, bits, and_, or_⟩ r))) := qh (fun V hV r hR => rbody7_any ⟨code, addr, count, to, words, bits, and_, or_⟩ h k q r V (hr0.ask (ha.below hb0) hV) hk hR)
  obtain ⟨O, hO⟩ : ∃ O, An.answerR ⟨code, addr, count, to, words, bits, and_, or_⟩ b = O := ⟨_, rfl⟩
  rw [askV_eq, hO]
  cases b with
  | nil =>
    have HO : Hid (O = none) := qh hO.symm
    have HN := qh (number_no q _ hr0)
    clear hr hr0 ha hk HBD hO
    go_enter Tryz.func180, Tryz.ntmps180
    go_wp2_with fail
    refine HN.out.mono ?_
    rintro e w7 ⟨he, hb7⟩
    obtain rfl := he
    have HE := qh (RBPost.none (q := q) HO.out (HROW.out _ hb7).2.2)
    go_wp2_with fail
    exact ⟨rfl, HE.out⟩
  | cons c r =>
    have HN := qh (number_yes q c r _ hr0)
    rw [An.answerR_cons] at hO
    have hcl := c.toNat_lt
    obtain ⟨cn, hcn⟩ : ∃ cn, c.toNat = cn := ⟨_, rfl⟩
    have HCN := qh hcn
    rw [hcn] at hO hcl
    dsimp only at hO
    clear hr hr0 ha hk hcn
    by_cases hx : (cn : Int) = 128 + code
    · rw [if_pos hx] at hO
      have e1 : ((cn : Int) != 128 + code) = false := by rw [bne_eq_false_iff_eq]; exact hx
      clear HBD
      cases r with
      | nil =>
        have HO : Hid (O = none) := qh hO.symm
        clear hO hx
        go_enter Tryz.func180, Tryz.ntmps180
        go_wp2_with fail
        refine HN.out.mono ?_
        rintro e w7 ⟨rfl, hr7, hb7⟩
        rw [HCN.out]
        obtain ⟨r0, -⟩ := row_eight (HROW.out _ hb7).1
        have HN2 := qh (number_no q _ hr7)
        go_wp2_with fail
        refine HN2.out.mono ?_
        rintro e w8 ⟨he, hb8⟩
        obtain rfl := he
        have HE := qh (RBPost.none (q := q) HO.out (HROW.out _ (hb7.trans hb8)).2.2)
        go_wp2_with fail
        exact ⟨rfl, HE.out⟩
      | cons x r2 =>
        obtain ⟨xn, hxn⟩ : ∃ xn, x.toNat = xn := ⟨_, rfl⟩
        have HXN := qh hxn
        have hxl := x.toNat_lt
        rw [hxn] at hxl
        have hO : (if xn = 0 then none else some (Ans.mk (xn : Int) [] [] [], r2)) = O := by rw [← hxn]; exact hO
        clear hxn hx
        by_cases h0 : xn = 0
        · have HO : Hid (O = none) := qh (by rw [← hO, if_pos h0])
          have e2 : ((xn : Int) != 0) = false := by rw [bne_eq_false_iff_eq]; omega
          clear hO h0
          go_enter Tryz.func180, Tryz.ntmps180
          go_wp2_with fail
          refine HN.out.mono ?_
          rintro e w7 ⟨rfl, hr7, hb7⟩
          rw [HCN.out]
          obtain ⟨r0, -⟩ := row_eight (HROW.out _ hb7).1
          have HN2 := qh (number_yes q x r2 _ hr7)
          go_wp2_with fail
          refine HN2.out.mono ?_
          rintro e w8 ⟨rfl, hr8, hb8⟩
          rw [HXN.out]
          have HE := qh (RBPost.none (q := q) HO.out (HROW.out _ (hb7.trans hb8)).2.2)
          go_wp2_with fail
          refine (need_no _).mono ?_
          rintro e w9 ⟨he, rfl⟩
          obtain rfl := he
          go_wp2_with fail
          exact ⟨rfl, HE.out⟩
        · have HO : Hid (O = some (Ans.mk (xn : Int) [] [] [], r2)) := qh (by rw [← hO, if_neg h0])
          have e2 : ((xn : Int) != 0) = true := by rw [bne_iff_ne]; omega
          clear hO h0
          go_enter Tryz.func180, Tryz.ntmps180
          go_wp2_with fail
          refine HN.out.mono ?_
          rintro e w7 ⟨rfl, hr7, hb7⟩
          rw [HCN.out]
          obtain ⟨r0, -⟩ := row_eight (HROW.out _ hb7).1
          have HN2 := qh (number_yes q x r2 _ hr7)
          go_wp2_with fail
          refine HN2.out.mono ?_
          rintro e w8 ⟨rfl, hr8, hb8⟩
          rw [HXN.out]
          have hbu := hb7.trans hb8
          have hr8 := qh hr8
          have hx8 := qh (AnsIn.exc w8 (xn : Int))
          go_wp2_with fail
          refine (need_yes _).mono ?_
          rintro e w9 ⟨rfl, rfl⟩
          have hRW := HROW.out _ hbu
          obtain ⟨z0, z1, z2, z3⟩ := row_quad hRW.2.1
          obtain ⟨y0, y1, y2, y3⟩ := row_quad_free hRW.2.1
          have HS4 := qh (stored_four hRW.2.1 (.int .i64 (xn : Int)) (.slice none 0 0) (.slice none 0 0) (.slice none 0 0))
          have HE : Hid (RBPost w q O (.returned (ansV ⟨(xn : Int), [], [], []⟩ (none, 0, 0) (none, 0, 0) (none, 0, 0))) _) := qh (RBPost.some HO.out ((hx8.out).four hRW.2.1 (.int .i64 (xn : Int)) (.slice none 0 0) (.slice none 0 0) (.slice none 0 0)) ((hr8.out).four (by omega) hRW.2.1 (.int .i64 (xn : Int)) (.slice none 0 0) (.slice none 0 0) (.slice none 0 0)) (but_four hRW.2.2 (.inr (by omega)) (.int .i64 (xn : Int)) (.slice none 0 0) (.slice none 0 0) (.slice none 0 0)))
          have hltz : w.heap.size + 1 < w9.heap.size := row_lt hRW.2.1
          have hltz0 : w.heap.size < w9.heap.size := by omega
          clear hRW hbu
          go_wp2_with fail
          obtain ⟨s0, s1, s2, s3⟩ := row_quad HS4.out
          refine bodyPost_ret_by (v := ansV ⟨(xn : Int), [], [], []⟩ (none, 0, 0) (none, 0, 0) (none, 0, 0)) (by simp [ansV, results, Tryz.f180, go_sem, s0, s1, s2, s3]) rfl ?_
          exact HE.out
    · rw [if_neg hx] at hO
      have e1 : ((cn : Int) != 128 + code) = true := by rw [bne_iff_ne]; exact hx
      clear hx
      by_cases hq : (cn : Int) = code
      · rw [if_pos hq] at hO
        have HO := qh hO
        have e2 : ((cn : Int) == code) = true := by rw [beq_iff_eq]; exact hq
        clear hq hO
        go_enter Tryz.func180, Tryz.ntmps180
        go_wp2_with fail
        refine HN.out.mono ?_
        rintro e w7 ⟨rfl, hr7, hb7⟩
        rw [HCN.out]
        obtain ⟨r0, r1, r2, r3, r4, r5, r6, r7⟩ := row_eight (HROW.out _ hb7).1
        go_wp2_with fail
        refine (need_yes _).mono ?_
        rintro e w8 ⟨rfl, rfl⟩
        have HB := qh (HBD.out _ hb7 r hr7)
        rw [HO.out] at HB
        have HQ : Hid (∀ e V, RBPost w8 q O e V → RBPost w q O e V) := qh (fun e V hV => by
          cases O with
          | none => exact ⟨hV.1, (HROW.out _ hb7).2.2.trans hV.2⟩
          | some xr =>
            obtain ⟨h', k', t', g1, g2, g3, g4⟩ := hV
            exact ⟨h', k', t', g1, g2, g3, (HROW.out _ hb7).2.2.trans g4⟩)
        clear hr7
        go_wp2_with fail
        refine HB.out.mono ?_
        intro e V hV
        cases hOO : O with
        | none =>
          rw [hOO] at hV
          obtain ⟨he, hb8⟩ := hV
          obtain rfl := he
          have HE := qh (RBPost.none (q := q) (o := none) rfl (HROW.out _ (hb7.trans hb8)).2.2)
          clear HQ HB
          go_wp2_with fail
          exact ⟨rfl, HE.out⟩
        | some xr =>
          obtain ⟨⟨xe, xb, xw, xt⟩, r'⟩ := xr
          rw [hOO] at hV
          obtain ⟨⟨hA, hn, hc⟩, ⟨kA, kn, kc⟩, ⟨tA, tn, tc⟩, rfl, g2, g3, hb8⟩ := hV
          rw [ansV_eq]
          dsimp only
          have hbu := hb7.trans hb8
          have hr8 := qh g3
          have hx8 := qh g2
          have HO := qh hOO
          clear HQ HB g2 g3 r0 r1 r2 r3 r4 r5 r6 r7
          have hRW := HROW.out _ hbu
          obtain ⟨z0, z1, z2, z3⟩ := row_quad hRW.2.1
          obtain ⟨y0, y1, y2, y3⟩ := row_quad_free hRW.2.1
          have HS4 := qh (stored_four hRW.2.1 (.int .i64 xe) (.slice hA hn hc) (.slice kA kn kc) (.slice tA tn tc))
          have HE : Hid (RBPost w q O (.returned (ansV ⟨xe, xb, xw, xt⟩ (hA, hn, hc) (kA, kn, kc) (tA, tn, tc))) _) := qh (RBPost.some HO.out ((hx8.out).four hRW.2.1 (.int .i64 xe) (.slice hA hn hc) (.slice kA kn kc) (.slice tA tn tc)) ((hr8.out).four (by omega) hRW.2.1 (.int .i64 xe) (.slice hA hn hc) (.slice kA kn kc) (.slice tA tn tc)) (but_four hRW.2.2 (.inr (by omega)) (.int .i64 xe) (.slice hA hn hc) (.slice kA kn kc) (.slice tA tn tc)))
          have hltz : w.heap.size + 1 < V.heap.size := row_lt hRW.2.1
          have hltz0 : w.heap.size < V.heap.size := by omega
          clear hRW hbu
          go_wp2_with fail
          obtain ⟨s0, s1, s2, s3⟩ := row_quad HS4.out
          refine bodyPost_ret_by (v := ansV ⟨xe, xb, xw, xt⟩ (hA, hn, hc) (kA, kn, kc) (tA, tn, tc)) (by simp [ansV, results, Tryz.f180, go_sem, s0, s1, s2, s3]) rfl ?_
          exact HE.out
      · rw [if_neg hq] at hO
        have HO : Hid (O = none) := qh hO.symm
        have e2 : ((cn : Int) == code) = false := by rw [beq_eq_false_iff_ne]; exact hq
        clear hq hO HBD
        go_enter Tryz.func180, Tryz.ntmps180
        go_wp2_with fail
        refine HN.out.mono ?_
        rintro e w7 ⟨rfl, hr7, hb7⟩
        rw [HCN.out]
        obtain ⟨r0, r1, r2, r3, r4, r5, r6, r7⟩ := row_eight (HROW.out _ hb7).1
        have HE := qh (RBPost.none (q := q) HO.out (HROW.out _ hb7).2.2)
        go_wp2_with fail
        refine (need_no _).mono ?_
        rintro e w9 ⟨he, rfl⟩
        obtain rfl := he
        go_wp2_with fail
        exact ⟨rfl, HE.out⟩

end Go.Proofs.YtlgmjnjhdamknaaGreat
