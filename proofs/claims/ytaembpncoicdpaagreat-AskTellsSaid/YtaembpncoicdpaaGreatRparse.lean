
/-
  Requests: Parse, Large of the document's layer 6, walked.
-/
import Derived.Test.YtaembpncoicdpaaGreatGuess
namespace Go.Proofs.YtaembpncoicdpaaGreat
open Go.RowKit

/-- What Parse of layer 6 leaves. -/
def ParsePost (w : World) (b : List UInt8) (e : Ending) (w' : World) : Prop :=
  ∃ h k, e = .returned (.tuple #[askV (Ak.parse b).1 h k, .int .i64 ((Ak.parse b).2 : Nat)]) ∧ AskIn w' (Ak.parse b).1 h k ∧ Below w.heap.size w w'
theorem AskIn.zero (w : World) : AskIn w Ak.zero (none, 0, 0) (none, 0, 0) := ⟨rfl, Nat.le_refl _, Nat.zero_le _, Lies.nil _ _, rfl, Nat.le_refl _, Nat.zero_le _, Lies.nil _ _⟩
theorem ParsePost.none {w w' : World} {b : List UInt8} {k : Nat} (h : Ak.parse b = (Ak.zero, k)) (hb : Below w.heap.size w w') : ParsePost w b (.returned (.tuple #[askV Ak.zero (Option.none, 0, 0) (Option.none, 0, 0), .int .i64 (k : Int)])) w' :=
  ⟨(Option.none, 0, 0), (Option.none, 0, 0), by rw [h], by rw [h]; exact AskIn.zero _, hb⟩
theorem AskIn.eight {w : World} {a : Ask} {h k : Option Addr × Nat × Nat} {g : Nat} (x : AskIn w a h k) (hh : ∀ b o s, h.1 = some ⟨b, o, s⟩ → 0 < h.2.1 → b ≠ g) (hk : ∀ b o s, k.1 = some ⟨b, o, s⟩ → 0 < k.2.1 → b ≠ g) (d0 d1 d2 d3 d4 d5 d6 d7 : Value) : AskIn ((((((((w.setCell ⟨g, 0, none⟩ d0).setCell ⟨g, 1, none⟩ d1).setCell ⟨g, 2, none⟩ d2).setCell ⟨g, 3, none⟩ d3).setCell ⟨g, 4, none⟩ d4).setCell ⟨g, 5, none⟩ d5).setCell ⟨g, 6, none⟩ d6).setCell ⟨g, 7, none⟩ d7) a h k :=
  ⟨x.hn, x.hc, x.hm, lies_eight x.hl (fun b o s e h0 => hh b o s e (by rw [← x.hn]; exact h0)) _ _ _ _ _ _ _ _, x.kn, x.kc, x.km, lies_eight x.kl (fun b o s e h0 => hk b o s e (by rw [← x.kn]; exact h0)) _ _ _ _ _ _ _ _⟩

set_option maxRecDepth 100000 in
set_option maxHeartbeats 1000000 in
theorem rlarge_any (a : Ask) (h k : Option Addr × Nat × Nat) (w : World) (ha : AskIn w a h k) :
    Calls Tryz.prog 5 #[askV a h k] w fun e w' => e = .returned (.bool (decide (300 < a.words.length) || decide (3000 < a.bits.length))) ∧ Below w.heap.size w w' := by
  rw [ha.hn, ha.kn]
  obtain ⟨hA, hn, hc⟩ := h
  obtain ⟨kA, kn, kc⟩ := k
  have m1 : hn ≤ maxLen := Nat.le_trans ha.hc ha.hm
  have m2 : kn ≤ maxLen := Nat.le_trans ha.kc ha.km
  clear ha
  unfold askV
  go_enter Tryz.func5, Tryz.ntmps5
  by_cases h1 : 300 < hn
  · have h1' : (300 : Int) < (hn : Int) := by omega
    go_wp2_with fail
    go_ret
    exact ⟨by (first | rfl | simp [h1]), (Below.refl _ w).alloc (Nat.le_refl _) _⟩
  · have h1' : ¬ (300 : Int) < (hn : Int) := by omega
    by_cases h2 : 3000 < kn
    · have h2' : (3000 : Int) < (kn : Int) := by omega
      go_wp2_with fail
      go_ret
      exact ⟨by (first | rfl | simp [h1, h2]), (Below.refl _ w).alloc (Nat.le_refl _) _⟩
    · have h2' : ¬ (3000 : Int) < (kn : Int) := by omega
      go_wp2_with fail
      go_ret
      exact ⟨by (first | rfl | simp [h1, h2]), (Below.refl _ w).alloc (Nat.le_refl _) _⟩

set_option maxRecDepth 100000 in
set_option maxHeartbeats 4000000 in
theorem rparse_any (A : Option Addr) (n c : Nat) (b : List UInt8) (hn : b.length = n) (hnc : n ≤ c) (hcm : c ≤ maxLen) (hm : n ≤ 1000) (w : World) (hb : Lies u8v w A b) :
    Calls Tryz.prog 9 #[.slice A n c] w (ParsePost w b) := by
  have hb0 : Below w.heap.size w (w.alloc (.cells #[.int .i64 0, .int .i64 0, .int .i64 0, .int .i64 0, .slice none 0 0, .slice none 0 0, .int .u16 0, .int .u16 0] 30)) := (Below.refl _ _).alloc (Nat.le_refl _) _
  have hres := row_at w #[.int .i64 0, .int .i64 0, .int .i64 0, .int .i64 0, .slice none 0 0, .slice none 0 0, .int .u16 0, .int .u16 0] 30 w.heap.size rfl
  by_cases h0 : n = 0
  · have HP : Hid (Ak.parse b = (Ak.zero, 1)) := Lib.hid (by unfold Ak.parse; rw [if_pos (.inl (by omega))])
    obtain ⟨y0, y1, y2, y3, y4, y5, y6, y7⟩ := row_eight hres
    obtain ⟨f0, f1, f2, f3, f4, f5, f6, f7⟩ := row_eight_free hres
    subst h0
    clear hb hn hnc
    go_enter Tryz.func9, Tryz.ntmps9
    go_wp2_with fail
    refine bodyPost_ret_by (v := .tuple #[askV Ak.zero (none, 0, 0) (none, 0, 0), .int .i64 1]) (by simp [askV, Ak.zero, results, Tryz.f9, go_sem, y0, y1, y2, y3, y4, y5, y6, y7]) rfl ?_
    exact ParsePost.none HP.out hb0
  · obtain ⟨b1, o1, rfl, hlt1, hc⟩ := hb.at_ (by omega)
    have hc0 := hc 0 (by omega)
    have e0 : b[0]'(by omega) = b.getD 0 0 := by rw [List.getD_eq_getElem?_getD, List.getElem?_eq_getElem (by omega)]; rfl
    rw [e0] at hc0
    obtain ⟨x, hx⟩ : ∃ x, b.getD 0 0 = x := ⟨_, rfl⟩
    rw [hx] at hc0
    have HX := Lib.hid hx
    have HB := Lib.hid hb
    have HN := Lib.hid hn
    have hwx : IntKind.i64.wrap (x.toNat : Int) = (x.toNat : Int) := by have := x.toNat_lt; rw [IntKind.wrap_i64]; omega
    have hn0 : ((n : Int) == 0) = false := by rw [beq_eq_false_iff_ne]; omega
    have hnp : 0 < n := by omega
    have hca : (w.alloc (.cells #[.int .i64 0, .int .i64 0, .int .i64 0, .int .i64 0, .slice none 0 0, .slice none 0 0, .int .u16 0, .int .u16 0] 30)).cell? ⟨b1, o1, none⟩ = some (u8v x) := (hb0.cell (p := ⟨b1, o1, none⟩) hlt1).trans hc0
    clear hc e0 hx hb hn hc0
    go_enter Tryz.func9, Tryz.ntmps9
    go_wp2_with fail
    refine (ris_any (x.toNat : Int) _).mono ?_
    rintro e w2 ⟨rfl, hb2⟩
    have hbw2 := hb0.trans (hb2.mono hb0.size)
    have hres2 := row_later hres hb2
    have hc2 := (hbw2.cell (p := ⟨b1, o1, none⟩) hlt1).trans (show w.cell? ⟨b1, o1, none⟩ = some (u8v x) by rw [← hca, hb0.cell (p := ⟨b1, o1, none⟩) hlt1])
    clear hca
    cases hi : Ak.isC (x.toNat : Int) with
    | false =>
      have HP : Hid (Ak.parse b = (Ak.zero, 1)) := Lib.hid (by unfold Ak.parse; rw [if_pos (.inr (.inl (by rw [HX.out]; exact hi)))])
      clear hi
      obtain ⟨y0, y1, y2, y3, y4, y5, y6, y7⟩ := row_eight hres2
      obtain ⟨f0, f1, f2, f3, f4, f5, f6, f7⟩ := row_eight_free hres2
      go_wp2_with fail
      obtain ⟨r0, r1, r2, r3, r4, r5, r6, r7⟩ := row_eight (stored_eight hres2 (.int .i64 0) (.int .i64 0) (.int .i64 0) (.int .i64 0) (.slice none 0 0) (.slice none 0 0) (.int .u16 0) (.int .u16 0))
      refine bodyPost_ret_by (v := .tuple #[askV Ak.zero (none, 0, 0) (none, 0, 0), .int .i64 1]) (by simp [askV, Ak.zero, results, Tryz.f9, go_sem, r0, r1, r2, r3, r4, r5, r6, r7]) rfl ?_
      exact ParsePost.none HP.out (below_eight hbw2 (Nat.le_refl _) _ _ _ _ _ _ _ _)
    | true =>
      have HI := Lib.hid hi
      clear hi
      by_cases h43 : x = 43 ∧ 1 < n ∧ b.getD 1 0 ≠ 14
      · obtain ⟨hx43, hn1, hb14⟩ := h43
        have HP : Hid (Ak.parse b = (Ak.zero, 1)) := Lib.hid (by unfold Ak.parse; rw [if_pos (.inr (.inr ⟨by rw [HX.out]; exact hx43, by rw [HN.out]; exact hn1, hb14⟩))])
        have q1 := (HB.out.below hbw2 (Nat.le_refl _)).row 1 (by rw [HN.out]; exact hn1)
        have e1 : b[1]'(by rw [HN.out]; exact hn1) = b.getD 1 0 := by rw [List.getD_eq_getElem?_getD, List.getElem?_eq_getElem (by rw [HN.out]; exact hn1)]; rfl
        rw [e1] at q1
        generalize b.getD 1 0 = y at *
        have hy14 : ((y.toNat : Int) != 14) = true := by
          rw [bne_iff_ne]
          intro e
          exact hb14 (UInt8.toNat_inj.1 (by exact_mod_cast e))
        have hn1' : (1 : Int) < (n : Int) := by omega
        subst hx43
        obtain ⟨y0, y1, y2, y3, y4, y5, y6, y7⟩ := row_eight hres2
        obtain ⟨f0, f1, f2, f3, f4, f5, f6, f7⟩ := row_eight_free hres2
        go_wp2_with fail
        obtain ⟨r0, r1, r2, r3, r4, r5, r6, r7⟩ := row_eight (stored_eight hres2 (.int .i64 0) (.int .i64 0) (.int .i64 0) (.int .i64 0) (.slice none 0 0) (.slice none 0 0) (.int .u16 0) (.int .u16 0))
        refine bodyPost_ret_by (v := .tuple #[askV Ak.zero (none, 0, 0) (none, 0, 0), .int .i64 1]) (by simp [askV, Ak.zero, results, Tryz.f9, go_sem, r0, r1, r2, r3, r4, r5, r6, r7]) rfl ?_
        exact ParsePost.none HP.out (below_eight hbw2 (Nat.le_refl _) _ _ _ _ _ _ _ _)
      · have HP : Hid (Ak.parse b = if Ak.formed (Ak.guess b) = false ∨ Ak.text (Ak.guess b) ≠ b then (Ak.zero, 3) else if Ak.placed (Ak.guess b) = false then (Ak.zero, 2) else (Ak.guess b, 0)) := Lib.hid (by
          unfold Ak.parse
          rw [if_neg]
          rintro (h | h | ⟨h1, h2, h3⟩)
          · rw [HN.out] at h; omega
          · rw [HX.out, HI.out] at h; cases h
          · exact h43 ⟨by rw [← HX.out]; exact h1, by rw [← HN.out]; exact h2, h3⟩)
        by_cases hx43 : x = 43
        · by_cases hn1 : 1 < n
          · have h14 : b.getD 1 0 = 14 := by
              by_cases h : b.getD 1 0 = 14
              · exact h
              · exact absurd ⟨hx43, hn1, h⟩ h43
            have q1 := (HB.out.below hbw2 (Nat.le_refl _)).row 1 (by rw [HN.out]; exact hn1)
            have e1 : b[1]'(by rw [HN.out]; exact hn1) = b.getD 1 0 := by rw [List.getD_eq_getElem?_getD, List.getElem?_eq_getElem (by rw [HN.out]; exact hn1)]; rfl
            rw [e1, h14] at q1
            have q1' : w2.cell? ⟨b1, o1 + 1, none⟩ = some (.int .u8 14) := q1
            clear q1 e1 h14 h43
            have hn1' : (1 : Int) < (n : Int) := by omega
            have hc2' : w2.cell? ⟨b1, o1, none⟩ = some (.int .u8 43) := by rw [hc2, hx43]; rfl
            subst hx43
            go_wp2_with fail
            refine (rguess_any _ n c b HN.out hnp hnc hcm hm _ (HB.out.below hbw2 (Nat.le_refl _))).mono ?_
            rintro e w3 ⟨h, k, rfl, ha3, hb3, hfh, hfk⟩
            obtain ⟨G, hG⟩ : ∃ G, Ak.guess b = G := ⟨_, rfl⟩
            rw [hG] at ha3 HP ⊢
            clear hG
            have hz2 := hbw2.size
            have hlt2 : w.heap.size < w2.heap.size := row_lt hres2
            have HH : Hid (∀ b o s, h.1 = some ⟨b, o, s⟩ → 0 < h.2.1 → b ≠ w.heap.size) := Lib.hid (fun b o s e h0 => by have := hfh b o s e h0; omega)
            have HK : Hid (∀ b o s, k.1 = some ⟨b, o, s⟩ → 0 < k.2.1 → b ≠ w.heap.size) := Lib.hid (fun b o s e h0 => by have := hfk b o s e h0; omega)
            have hb4 := (Below.refl _ w3).alloc (Nat.le_refl _) (.cells #[.int .i64 G.code, .int .i64 G.addr, .int .i64 G.count, .int .i64 G.to, .slice h.1 h.2.1 h.2.2, .slice k.1 k.2.1 k.2.2, u16v G.and_, u16v G.or_] 30)
            have hrow4 := row_at w3 #[.int .i64 G.code, .int .i64 G.addr, .int .i64 G.count, .int .i64 G.to, .slice h.1 h.2.1 h.2.2, .slice k.1 k.2.1 k.2.2, u16v G.and_, u16v G.or_] 30 w3.heap.size rfl
            have hb34 := hb3.trans (hb4.mono hb3.size)
            have hbw4 := hbw2.trans (hb34.mono hz2)
            have hres4 := row_later hres2 hb34
            have ha4 := ha3.below hb4
            obtain ⟨g0, g1, g2, g3, g4, g5, g6, g7⟩ := row_eight hrow4
            have hVA : askV G h k = .agg #[.int .i64 G.code, .int .i64 G.addr, .int .i64 G.count, .int .i64 G.to, .slice h.1 h.2.1 h.2.2, .slice k.1 k.2.1 k.2.2, u16v G.and_, u16v G.or_] := rfl
            rw [hVA]
            clear hb2 hbw2 hfh hfk ha3 hb3 hres2 hc2
            go_wp2_with fail
            refine (rformed_any G h k _ ha4).mono ?_
            rintro e w5 ⟨rfl, hb5⟩
            have hrow5 := row_later hrow4 hb5
            have hres5 := row_later hres4 hb5
            have ha5 := ha4.below hb5
            have hbw5 := hbw4.trans (hb5.mono hbw4.size)
            clear hrow4 hres4 ha4 g0 g1 g2 g3 g4 g5 g6 g7 hb34 hb4
            cases hf : Ak.formed G with
            | false =>
              rw [if_pos (.inl hf)] at HP
              clear hf
              obtain ⟨y0, y1, y2, y3, y4, y5, y6, y7⟩ := row_eight hres5
              obtain ⟨f0, f1, f2, f3, f4, f5, f6, f7⟩ := row_eight_free hres5
              go_wp2_with fail
              obtain ⟨r0, r1, r2, r3, r4, r5, r6, r7⟩ := row_eight (stored_eight hres5 (.int .i64 0) (.int .i64 0) (.int .i64 0) (.int .i64 0) (.slice none 0 0) (.slice none 0 0) (.int .u16 0) (.int .u16 0))
              refine bodyPost_ret_by (v := .tuple #[askV Ak.zero (none, 0, 0) (none, 0, 0), .int .i64 3]) (by simp [askV, Ak.zero, results, Tryz.f9, go_sem, r0, r1, r2, r3, r4, r5, r6, r7]) rfl ?_
              exact ParsePost.none HP.out (below_eight hbw5 (Nat.le_refl _) _ _ _ _ _ _ _ _)
            | true =>
              have HF := Lib.hid hf
              clear hf
              obtain ⟨g0, g1, g2, g3, g4, g5, g6, g7⟩ := row_eight hrow5
              go_wp2_with fail
              refine (rtext_any G h k _ ha5 HF.out).mono ?_
              rintro e w6 ⟨At, nt, ct, rfl, hnt, hownt, hb6⟩
              obtain ⟨_, hct, _, hlt6⟩ := own_at hownt
              have hb65 := HB.out.below (hbw5.trans (hb6.mono hbw5.size)) (Nat.le_refl _)
              have hntm : nt ≤ maxLen := by have := (own_at hownt).1; omega
              go_wp2_with fail
              refine (rsame8_any At _ nt n ct c (Ak.text G) b hnt HN.out hntm w6 hlt6 hb65).mono ?_
              rintro e w7 ⟨rfl, q, rfl⟩
              have hb67 := drewN_below hb6 q
              have hres7 := row_later hres5 hb67
              have hbw7 := hbw5.trans (hb67.mono hbw5.size)
              replace hrow5 := row_later hrow5 hb67
              clear g0 g1 g2 g3 g4 g5 g6 g7 hownt hlt6 hb65 hres5
              cases hs : (Ak.text G == b) with
              | false =>
                rw [if_pos (.inr (by intro h; rw [h, beq_self_eq_true] at hs; cases hs))] at HP
                clear hs
                obtain ⟨y0, y1, y2, y3, y4, y5, y6, y7⟩ := row_eight hres7
                obtain ⟨f0, f1, f2, f3, f4, f5, f6, f7⟩ := row_eight_free hres7
                go_wp2_with fail
                obtain ⟨r0, r1, r2, r3, r4, r5, r6, r7⟩ := row_eight (stored_eight hres7 (.int .i64 0) (.int .i64 0) (.int .i64 0) (.int .i64 0) (.slice none 0 0) (.slice none 0 0) (.int .u16 0) (.int .u16 0))
                refine bodyPost_ret_by (v := .tuple #[askV Ak.zero (none, 0, 0) (none, 0, 0), .int .i64 3]) (by simp [askV, Ak.zero, results, Tryz.f9, go_sem, r0, r1, r2, r3, r4, r5, r6, r7]) rfl ?_
                exact ParsePost.none HP.out (below_eight hbw7 (Nat.le_refl _) _ _ _ _ _ _ _ _)
              | true =>
                rw [if_neg (by rintro (h | h); rw [HF.out] at h; cases h; exact h (by simpa using hs))] at HP
                clear hs
                obtain ⟨g0, g1, g2, g3, g4, g5, g6, g7⟩ := row_eight hrow5
                go_wp2_with fail
                refine (rplaced_any G h k _ (ha5.below hb67) HF.out).mono ?_
                rintro e w8 ⟨rfl, hb8⟩
                clear g0 g1 g2 g3 g4 g5 g6 g7
                cases hp : Ak.placed G with
                | false =>
                  rw [if_pos hp] at HP
                  clear hp
                  obtain ⟨y0, y1, y2, y3, y4, y5, y6, y7⟩ := row_eight (row_later hres7 hb8)
                  obtain ⟨f0, f1, f2, f3, f4, f5, f6, f7⟩ := row_eight_free (row_later hres7 hb8)
                  go_wp2_with fail
                  obtain ⟨r0, r1, r2, r3, r4, r5, r6, r7⟩ := row_eight (stored_eight (row_later hres7 hb8) (.int .i64 0) (.int .i64 0) (.int .i64 0) (.int .i64 0) (.slice none 0 0) (.slice none 0 0) (.int .u16 0) (.int .u16 0))
                  refine bodyPost_ret_by (v := .tuple #[askV Ak.zero (none, 0, 0) (none, 0, 0), .int .i64 2]) (by simp [askV, Ak.zero, results, Tryz.f9, go_sem, r0, r1, r2, r3, r4, r5, r6, r7]) rfl ?_
                  exact ParsePost.none HP.out (below_eight (hbw7.trans (hb8.mono hbw7.size)) (Nat.le_refl _) _ _ _ _ _ _ _ _)
                | true =>
                  rw [if_neg (by rw [hp]; simp)] at HP
                  have HQ := HP
                  clear hp
                  obtain ⟨g0, g1, g2, g3, g4, g5, g6, g7⟩ := row_eight (row_later hrow5 hb8)
                  obtain ⟨y0, y1, y2, y3, y4, y5, y6, y7⟩ := row_eight (row_later (row_later hres7 hb8) (Below.refl _ _))
                  obtain ⟨f0, f1, f2, f3, f4, f5, f6, f7⟩ := row_eight_free (row_later hres7 hb8)
                  go_wp2_with fail
                  obtain ⟨r0, r1, r2, r3, r4, r5, r6, r7⟩ := row_eight (stored_eight (row_later hres7 hb8) (.int .i64 G.code) (.int .i64 G.addr) (.int .i64 G.count) (.int .i64 G.to) (.slice h.1 h.2.1 h.2.2) (.slice k.1 k.2.1 k.2.2) (u16v G.and_) (u16v G.or_))
                  refine bodyPost_ret_by (v := .tuple #[askV G h k, .int .i64 0]) (by simp [askV, results, Tryz.f9, go_sem, r0, r1, r2, r3, r4, r5, r6, r7]) rfl ?_
                  exact ⟨h, k, by rw [HQ.out]; rfl, by rw [HQ.out]; exact ((ha5.below hb67).below hb8).eight HH.out HK.out _ _ _ _ _ _ _ _, below_eight (hbw7.trans (hb8.mono hbw7.size)) (Nat.le_refl _) _ _ _ _ _ _ _ _⟩
          · clear h43
            have hn1' : ¬ (1 : Int) < (n : Int) := by omega
            have hc2' : w2.cell? ⟨b1, o1, none⟩ = some (.int .u8 43) := by rw [hc2, hx43]; rfl
            subst hx43
            go_wp2_with fail
            refine (rguess_any _ n c b HN.out hnp hnc hcm hm _ (HB.out.below hbw2 (Nat.le_refl _))).mono ?_
            rintro e w3 ⟨h, k, rfl, ha3, hb3, hfh, hfk⟩
            obtain ⟨G, hG⟩ : ∃ G, Ak.guess b = G := ⟨_, rfl⟩
            rw [hG] at ha3 HP ⊢
            clear hG
            have hz2 := hbw2.size
            have hlt2 : w.heap.size < w2.heap.size := row_lt hres2
            have HH : Hid (∀ b o s, h.1 = some ⟨b, o, s⟩ → 0 < h.2.1 → b ≠ w.heap.size) := Lib.hid (fun b o s e h0 => by have := hfh b o s e h0; omega)
            have HK : Hid (∀ b o s, k.1 = some ⟨b, o, s⟩ → 0 < k.2.1 → b ≠ w.heap.size) := Lib.hid (fun b o s e h0 => by have := hfk b o s e h0; omega)
            have hb4 := (Below.refl _ w3).alloc (Nat.le_refl _) (.cells #[.int .i64 G.code, .int .i64 G.addr, .int .i64 G.count, .int .i64 G.to, .slice h.1 h.2.1 h.2.2, .slice k.1 k.2.1 k.2.2, u16v G.and_, u16v G.or_] 30)
            have hrow4 := row_at w3 #[.int .i64 G.code, .int .i64 G.addr, .int .i64 G.count, .int .i64 G.to, .slice h.1 h.2.1 h.2.2, .slice k.1 k.2.1 k.2.2, u16v G.and_, u16v G.or_] 30 w3.heap.size rfl
            have hb34 := hb3.trans (hb4.mono hb3.size)
            have hbw4 := hbw2.trans (hb34.mono hz2)
            have hres4 := row_later hres2 hb34
            have ha4 := ha3.below hb4
            obtain ⟨g0, g1, g2, g3, g4, g5, g6, g7⟩ := row_eight hrow4
            have hVA : askV G h k = .agg #[.int .i64 G.code, .int .i64 G.addr, .int .i64 G.count, .int .i64 G.to, .slice h.1 h.2.1 h.2.2, .slice k.1 k.2.1 k.2.2, u16v G.and_, u16v G.or_] := rfl
            rw [hVA]
            clear hb2 hbw2 hfh hfk ha3 hb3 hres2 hc2
            go_wp2_with fail
            refine (rformed_any G h k _ ha4).mono ?_
            rintro e w5 ⟨rfl, hb5⟩
            have hrow5 := row_later hrow4 hb5
            have hres5 := row_later hres4 hb5
            have ha5 := ha4.below hb5
            have hbw5 := hbw4.trans (hb5.mono hbw4.size)
            clear hrow4 hres4 ha4 g0 g1 g2 g3 g4 g5 g6 g7 hb34 hb4
            cases hf : Ak.formed G with
            | false =>
              rw [if_pos (.inl hf)] at HP
              clear hf
              obtain ⟨y0, y1, y2, y3, y4, y5, y6, y7⟩ := row_eight hres5
              obtain ⟨f0, f1, f2, f3, f4, f5, f6, f7⟩ := row_eight_free hres5
              go_wp2_with fail
              obtain ⟨r0, r1, r2, r3, r4, r5, r6, r7⟩ := row_eight (stored_eight hres5 (.int .i64 0) (.int .i64 0) (.int .i64 0) (.int .i64 0) (.slice none 0 0) (.slice none 0 0) (.int .u16 0) (.int .u16 0))
              refine bodyPost_ret_by (v := .tuple #[askV Ak.zero (none, 0, 0) (none, 0, 0), .int .i64 3]) (by simp [askV, Ak.zero, results, Tryz.f9, go_sem, r0, r1, r2, r3, r4, r5, r6, r7]) rfl ?_
              exact ParsePost.none HP.out (below_eight hbw5 (Nat.le_refl _) _ _ _ _ _ _ _ _)
            | true =>
              have HF := Lib.hid hf
              clear hf
              obtain ⟨g0, g1, g2, g3, g4, g5, g6, g7⟩ := row_eight hrow5
              go_wp2_with fail
              refine (rtext_any G h k _ ha5 HF.out).mono ?_
              rintro e w6 ⟨At, nt, ct, rfl, hnt, hownt, hb6⟩
              obtain ⟨_, hct, _, hlt6⟩ := own_at hownt
              have hb65 := HB.out.below (hbw5.trans (hb6.mono hbw5.size)) (Nat.le_refl _)
              have hntm : nt ≤ maxLen := by have := (own_at hownt).1; omega
              go_wp2_with fail
              refine (rsame8_any At _ nt n ct c (Ak.text G) b hnt HN.out hntm w6 hlt6 hb65).mono ?_
              rintro e w7 ⟨rfl, q, rfl⟩
              have hb67 := drewN_below hb6 q
              have hres7 := row_later hres5 hb67
              have hbw7 := hbw5.trans (hb67.mono hbw5.size)
              replace hrow5 := row_later hrow5 hb67
              clear g0 g1 g2 g3 g4 g5 g6 g7 hownt hlt6 hb65 hres5
              cases hs : (Ak.text G == b) with
              | false =>
                rw [if_pos (.inr (by intro h; rw [h, beq_self_eq_true] at hs; cases hs))] at HP
                clear hs
                obtain ⟨y0, y1, y2, y3, y4, y5, y6, y7⟩ := row_eight hres7
                obtain ⟨f0, f1, f2, f3, f4, f5, f6, f7⟩ := row_eight_free hres7
                go_wp2_with fail
                obtain ⟨r0, r1, r2, r3, r4, r5, r6, r7⟩ := row_eight (stored_eight hres7 (.int .i64 0) (.int .i64 0) (.int .i64 0) (.int .i64 0) (.slice none 0 0) (.slice none 0 0) (.int .u16 0) (.int .u16 0))
                refine bodyPost_ret_by (v := .tuple #[askV Ak.zero (none, 0, 0) (none, 0, 0), .int .i64 3]) (by simp [askV, Ak.zero, results, Tryz.f9, go_sem, r0, r1, r2, r3, r4, r5, r6, r7]) rfl ?_
                exact ParsePost.none HP.out (below_eight hbw7 (Nat.le_refl _) _ _ _ _ _ _ _ _)
              | true =>
                rw [if_neg (by rintro (h | h); rw [HF.out] at h; cases h; exact h (by simpa using hs))] at HP
                clear hs
                obtain ⟨g0, g1, g2, g3, g4, g5, g6, g7⟩ := row_eight hrow5
                go_wp2_with fail
                refine (rplaced_any G h k _ (ha5.below hb67) HF.out).mono ?_
                rintro e w8 ⟨rfl, hb8⟩
                clear g0 g1 g2 g3 g4 g5 g6 g7
                cases hp : Ak.placed G with
                | false =>
                  rw [if_pos hp] at HP
                  clear hp
                  obtain ⟨y0, y1, y2, y3, y4, y5, y6, y7⟩ := row_eight (row_later hres7 hb8)
                  obtain ⟨f0, f1, f2, f3, f4, f5, f6, f7⟩ := row_eight_free (row_later hres7 hb8)
                  go_wp2_with fail
                  obtain ⟨r0, r1, r2, r3, r4, r5, r6, r7⟩ := row_eight (stored_eight (row_later hres7 hb8) (.int .i64 0) (.int .i64 0) (.int .i64 0) (.int .i64 0) (.slice none 0 0) (.slice none 0 0) (.int .u16 0) (.int .u16 0))
                  refine bodyPost_ret_by (v := .tuple #[askV Ak.zero (none, 0, 0) (none, 0, 0), .int .i64 2]) (by simp [askV, Ak.zero, results, Tryz.f9, go_sem, r0, r1, r2, r3, r4, r5, r6, r7]) rfl ?_
                  exact ParsePost.none HP.out (below_eight (hbw7.trans (hb8.mono hbw7.size)) (Nat.le_refl _) _ _ _ _ _ _ _ _)
                | true =>
                  rw [if_neg (by rw [hp]; simp)] at HP
                  have HQ := HP
                  clear hp
                  obtain ⟨g0, g1, g2, g3, g4, g5, g6, g7⟩ := row_eight (row_later hrow5 hb8)
                  obtain ⟨y0, y1, y2, y3, y4, y5, y6, y7⟩ := row_eight (row_later (row_later hres7 hb8) (Below.refl _ _))
                  obtain ⟨f0, f1, f2, f3, f4, f5, f6, f7⟩ := row_eight_free (row_later hres7 hb8)
                  go_wp2_with fail
                  obtain ⟨r0, r1, r2, r3, r4, r5, r6, r7⟩ := row_eight (stored_eight (row_later hres7 hb8) (.int .i64 G.code) (.int .i64 G.addr) (.int .i64 G.count) (.int .i64 G.to) (.slice h.1 h.2.1 h.2.2) (.slice k.1 k.2.1 k.2.2) (u16v G.and_) (u16v G.or_))
                  refine bodyPost_ret_by (v := .tuple #[askV G h k, .int .i64 0]) (by simp [askV, results, Tryz.f9, go_sem, r0, r1, r2, r3, r4, r5, r6, r7]) rfl ?_
                  exact ⟨h, k, by rw [HQ.out]; rfl, by rw [HQ.out]; exact ((ha5.below hb67).below hb8).eight HH.out HK.out _ _ _ _ _ _ _ _, below_eight (hbw7.trans (hb8.mono hbw7.size)) (Nat.le_refl _) _ _ _ _ _ _ _ _⟩
        · clear h43
          have hxn : ((x.toNat : Int) == 43) = false := by
            rw [beq_eq_false_iff_ne]
            intro e
            exact hx43 (UInt8.toNat_inj.1 (by exact_mod_cast e))
          clear hx43
          go_wp2_with fail
          refine (rguess_any _ n c b HN.out hnp hnc hcm hm _ (HB.out.below hbw2 (Nat.le_refl _))).mono ?_
          rintro e w3 ⟨h, k, rfl, ha3, hb3, hfh, hfk⟩
          obtain ⟨G, hG⟩ : ∃ G, Ak.guess b = G := ⟨_, rfl⟩
          rw [hG] at ha3 HP ⊢
          clear hG
          have hz2 := hbw2.size
          have hlt2 : w.heap.size < w2.heap.size := row_lt hres2
          have HH : Hid (∀ b o s, h.1 = some ⟨b, o, s⟩ → 0 < h.2.1 → b ≠ w.heap.size) := Lib.hid (fun b o s e h0 => by have := hfh b o s e h0; omega)
          have HK : Hid (∀ b o s, k.1 = some ⟨b, o, s⟩ → 0 < k.2.1 → b ≠ w.heap.size) := Lib.hid (fun b o s e h0 => by have := hfk b o s e h0; omega)
          have hb4 := (Below.refl _ w3).alloc (Nat.le_refl _) (.cells #[.int .i64 G.code, .int .i64 G.addr, .int .i64 G.count, .int .i64 G.to, .slice h.1 h.2.1 h.2.2, .slice k.1 k.2.1 k.2.2, u16v G.and_, u16v G.or_] 30)
          have hrow4 := row_at w3 #[.int .i64 G.code, .int .i64 G.addr, .int .i64 G.count, .int .i64 G.to, .slice h.1 h.2.1 h.2.2, .slice k.1 k.2.1 k.2.2, u16v G.and_, u16v G.or_] 30 w3.heap.size rfl
          have hb34 := hb3.trans (hb4.mono hb3.size)
          have hbw4 := hbw2.trans (hb34.mono hz2)
          have hres4 := row_later hres2 hb34
          have ha4 := ha3.below hb4
          obtain ⟨g0, g1, g2, g3, g4, g5, g6, g7⟩ := row_eight hrow4
          have hVA : askV G h k = .agg #[.int .i64 G.code, .int .i64 G.addr, .int .i64 G.count, .int .i64 G.to, .slice h.1 h.2.1 h.2.2, .slice k.1 k.2.1 k.2.2, u16v G.and_, u16v G.or_] := rfl
          rw [hVA]
          clear hb2 hbw2 hfh hfk ha3 hb3 hres2 hc2
          go_wp2_with fail
          refine (rformed_any G h k _ ha4).mono ?_
          rintro e w5 ⟨rfl, hb5⟩
          have hrow5 := row_later hrow4 hb5
          have hres5 := row_later hres4 hb5
          have ha5 := ha4.below hb5
          have hbw5 := hbw4.trans (hb5.mono hbw4.size)
          clear hrow4 hres4 ha4 g0 g1 g2 g3 g4 g5 g6 g7 hb34 hb4
          cases hf : Ak.formed G with
          | false =>
            rw [if_pos (.inl hf)] at HP
            clear hf
            obtain ⟨y0, y1, y2, y3, y4, y5, y6, y7⟩ := row_eight hres5
            obtain ⟨f0, f1, f2, f3, f4, f5, f6, f7⟩ := row_eight_free hres5
            go_wp2_with fail
            obtain ⟨r0, r1, r2, r3, r4, r5, r6, r7⟩ := row_eight (stored_eight hres5 (.int .i64 0) (.int .i64 0) (.int .i64 0) (.int .i64 0) (.slice none 0 0) (.slice none 0 0) (.int .u16 0) (.int .u16 0))
            refine bodyPost_ret_by (v := .tuple #[askV Ak.zero (none, 0, 0) (none, 0, 0), .int .i64 3]) (by simp [askV, Ak.zero, results, Tryz.f9, go_sem, r0, r1, r2, r3, r4, r5, r6, r7]) rfl ?_
            exact ParsePost.none HP.out (below_eight hbw5 (Nat.le_refl _) _ _ _ _ _ _ _ _)
          | true =>
            have HF := Lib.hid hf
            clear hf
            obtain ⟨g0, g1, g2, g3, g4, g5, g6, g7⟩ := row_eight hrow5
            go_wp2_with fail
            refine (rtext_any G h k _ ha5 HF.out).mono ?_
            rintro e w6 ⟨At, nt, ct, rfl, hnt, hownt, hb6⟩
            obtain ⟨_, hct, _, hlt6⟩ := own_at hownt
            have hb65 := HB.out.below (hbw5.trans (hb6.mono hbw5.size)) (Nat.le_refl _)
            have hntm : nt ≤ maxLen := by have := (own_at hownt).1; omega
            go_wp2_with fail
            refine (rsame8_any At _ nt n ct c (Ak.text G) b hnt HN.out hntm w6 hlt6 hb65).mono ?_
            rintro e w7 ⟨rfl, q, rfl⟩
            have hb67 := drewN_below hb6 q
            have hres7 := row_later hres5 hb67
            have hbw7 := hbw5.trans (hb67.mono hbw5.size)
            replace hrow5 := row_later hrow5 hb67
            clear g0 g1 g2 g3 g4 g5 g6 g7 hownt hlt6 hb65 hres5
            cases hs : (Ak.text G == b) with
            | false =>
              rw [if_pos (.inr (by intro h; rw [h, beq_self_eq_true] at hs; cases hs))] at HP
              clear hs
              obtain ⟨y0, y1, y2, y3, y4, y5, y6, y7⟩ := row_eight hres7
              obtain ⟨f0, f1, f2, f3, f4, f5, f6, f7⟩ := row_eight_free hres7
              go_wp2_with fail
              obtain ⟨r0, r1, r2, r3, r4, r5, r6, r7⟩ := row_eight (stored_eight hres7 (.int .i64 0) (.int .i64 0) (.int .i64 0) (.int .i64 0) (.slice none 0 0) (.slice none 0 0) (.int .u16 0) (.int .u16 0))
              refine bodyPost_ret_by (v := .tuple #[askV Ak.zero (none, 0, 0) (none, 0, 0), .int .i64 3]) (by simp [askV, Ak.zero, results, Tryz.f9, go_sem, r0, r1, r2, r3, r4, r5, r6, r7]) rfl ?_
              exact ParsePost.none HP.out (below_eight hbw7 (Nat.le_refl _) _ _ _ _ _ _ _ _)
            | true =>
              rw [if_neg (by rintro (h | h); rw [HF.out] at h; cases h; exact h (by simpa using hs))] at HP
              clear hs
              obtain ⟨g0, g1, g2, g3, g4, g5, g6, g7⟩ := row_eight hrow5
              go_wp2_with fail
              refine (rplaced_any G h k _ (ha5.below hb67) HF.out).mono ?_
              rintro e w8 ⟨rfl, hb8⟩
              clear g0 g1 g2 g3 g4 g5 g6 g7
              cases hp : Ak.placed G with
              | false =>
                rw [if_pos hp] at HP
                clear hp
                obtain ⟨y0, y1, y2, y3, y4, y5, y6, y7⟩ := row_eight (row_later hres7 hb8)
                obtain ⟨f0, f1, f2, f3, f4, f5, f6, f7⟩ := row_eight_free (row_later hres7 hb8)
                go_wp2_with fail
                obtain ⟨r0, r1, r2, r3, r4, r5, r6, r7⟩ := row_eight (stored_eight (row_later hres7 hb8) (.int .i64 0) (.int .i64 0) (.int .i64 0) (.int .i64 0) (.slice none 0 0) (.slice none 0 0) (.int .u16 0) (.int .u16 0))
                refine bodyPost_ret_by (v := .tuple #[askV Ak.zero (none, 0, 0) (none, 0, 0), .int .i64 2]) (by simp [askV, Ak.zero, results, Tryz.f9, go_sem, r0, r1, r2, r3, r4, r5, r6, r7]) rfl ?_
                exact ParsePost.none HP.out (below_eight (hbw7.trans (hb8.mono hbw7.size)) (Nat.le_refl _) _ _ _ _ _ _ _ _)
              | true =>
                rw [if_neg (by rw [hp]; simp)] at HP
                have HQ := HP
                clear hp
                obtain ⟨g0, g1, g2, g3, g4, g5, g6, g7⟩ := row_eight (row_later hrow5 hb8)
                obtain ⟨y0, y1, y2, y3, y4, y5, y6, y7⟩ := row_eight (row_later (row_later hres7 hb8) (Below.refl _ _))
                obtain ⟨f0, f1, f2, f3, f4, f5, f6, f7⟩ := row_eight_free (row_later hres7 hb8)
                go_wp2_with fail
                obtain ⟨r0, r1, r2, r3, r4, r5, r6, r7⟩ := row_eight (stored_eight (row_later hres7 hb8) (.int .i64 G.code) (.int .i64 G.addr) (.int .i64 G.count) (.int .i64 G.to) (.slice h.1 h.2.1 h.2.2) (.slice k.1 k.2.1 k.2.2) (u16v G.and_) (u16v G.or_))
                refine bodyPost_ret_by (v := .tuple #[askV G h k, .int .i64 0]) (by simp [askV, results, Tryz.f9, go_sem, r0, r1, r2, r3, r4, r5, r6, r7]) rfl ?_
                exact ⟨h, k, by rw [HQ.out]; rfl, by rw [HQ.out]; exact ((ha5.below hb67).below hb8).eight HH.out HK.out _ _ _ _ _ _ _ _, below_eight (hbw7.trans (hb8.mono hbw7.size)) (Nat.le_refl _) _ _ _ _ _ _ _ _⟩
end Go.Proofs.YtaembpncoicdpaaGreat
