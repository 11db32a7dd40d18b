
/-
  Answers: Large, Same of the document's layer 7, walked.
-/
import Derived.Test.YtcbkbdoaaaofjaaGreatAn
import Derived.Deep.QuietTactic
import Derived.BigQuiet
import Derived.MapKept
import Derived.Laws.StructEq
namespace Go.Proofs.YtcbkbdoaaaofjaaGreat
open Go.RowKit

set_option maxRecDepth 100000 in
set_option maxHeartbeats 2000000 in
theorem rlarge7_any (x : Ans) (h k t : Hd) (w : World) (hx : AnsIn w x h k t) :
    Calls Tryz.prog 8 #[ansV x h k t] w fun e w' => e = .returned (.bool (An.large x)) ∧ Below w.heap.size w w' := by
  have hF : An.large x = (decide (3000 < h.2.1) || decide (300 < k.2.1) || decide (300 < t.2.1) || decide (900 < An.long x.texts)) := by rw [← hx.hn, ← hx.kn, ← hx.tn]; rfl
  obtain ⟨V, hV⟩ : ∃ V, An.large x = V := ⟨_, rfl⟩
  rw [hV] at hF ⊢
  clear hV
  have hb0 : Below w.heap.size w (w.alloc (.cells #[.int .i64 x.exc, .slice h.1 h.2.1 h.2.2, .slice k.1 k.2.1 k.2.2, .slice t.1 t.2.1 t.2.2] 33)) := (Below.refl _ _).alloc (Nat.le_refl _) _
  have htl := Lib.hid (hx.tl.below hb0 (Nat.le_refl _))
  have htn := Lib.hid hx.tn
  have hts := Lib.hid hx.ts
  have m1 : h.2.1 ≤ maxLen := Nat.le_trans hx.hc hx.hm
  have m2 : k.2.1 ≤ maxLen := Nat.le_trans hx.kc hx.km
  have m3 : t.2.1 ≤ maxLen := Nat.le_trans hx.tc hx.tm
  clear hx
  obtain ⟨hA, hn, hc⟩ := h
  obtain ⟨kA, kn, kc⟩ := k
  obtain ⟨tA, tn, tc⟩ := t
  simp only at *
  unfold ansV
  have HF := Lib.hid hF
  clear hF
  by_cases h1 : 3000 < hn
  · have h1' : (3000 : Int) < (hn : Int) := by omega
    have HV : Hid (V = true) := Lib.hid (by rw [HF.out, decide_eq_true h1]; rfl)
    go_enter Tryz.func8, Tryz.ntmps8
    go_wp2_with fail
    go_ret
    exact ⟨by rw [HV.out]; (first | rfl | (simp; omega)), hb0⟩
  · have h1' : ¬ (3000 : Int) < (hn : Int) := by omega
    by_cases h2 : 300 < kn
    · have h2' : (300 : Int) < (kn : Int) := by omega
      have HV : Hid (V = true) := Lib.hid (by rw [HF.out, decide_eq_true h2]; simp)
      go_enter Tryz.func8, Tryz.ntmps8
      go_wp2_with fail
      go_ret
      exact ⟨by rw [HV.out]; (first | rfl | (simp; omega)), hb0⟩
    · have h2' : ¬ (300 : Int) < (kn : Int) := by omega
      by_cases h3 : 300 < tn
      · have h3' : (300 : Int) < (tn : Int) := by omega
        have HV : Hid (V = true) := Lib.hid (by rw [HF.out, decide_eq_true h3]; simp)
        go_enter Tryz.func8, Tryz.ntmps8
        go_wp2_with fail
        go_ret
        exact ⟨by rw [HV.out]; (first | rfl | (simp; omega)), hb0⟩
      · have h3' : ¬ (300 : Int) < (tn : Int) := by omega
        have HV : Hid (V = decide (900 < An.long x.texts)) := Lib.hid (by rw [HF.out, decide_eq_false h1, decide_eq_false h2, decide_eq_false h3]; simp)
        go_enter Tryz.func8, Tryz.ntmps8
        go_wp2_with fail
        refine (rlong_any tA tn tc x.texts htn.out m3 hts.out _ htl.out).mono ?_
        rintro e w2 ⟨rfl, rfl⟩
        obtain ⟨L, hL⟩ : ∃ L, An.long x.texts = L := ⟨_, rfl⟩
        rw [hL] at HV ⊢
        clear hL
        by_cases h4 : 900 < L
        · have h4' : (900 : Int) < (L : Int) := by omega
          rw [decide_eq_true h4] at HV
          go_wp2_with fail
          go_ret
          exact ⟨by rw [HV.out]; (first | rfl | (simp; omega)), hb0⟩
        · have h4' : ¬ (900 : Int) < (L : Int) := by omega
          rw [decide_eq_false h4] at HV
          go_wp2_with fail
          go_ret
          exact ⟨by rw [HV.out]; (first | rfl | (simp; omega)), hb0⟩

theorem str_ne {a b : ByteArray} (h : a ≠ b) : (a == b) = false := by
  cases hb : (a == b) with
  | false => rfl
  | true => exact absurd ((Go.MapKept.bytes_beq a b).1 hb) h
theorem str_self (a : ByteArray) : (a == a) = true := (Go.MapKept.bytes_beq a a).2 rfl
theorem take_none {l k : List ByteArray} (hl : l.length = k.length) (ht : l.take l.length = k.take l.length) : l = k := by
  rwa [List.take_length, hl, List.take_length] at ht
set_option maxRecDepth 100000 in
set_option maxHeartbeats 4000000 in
theorem rsame7_any (x y : Ans) (h k t h' k' t' : Hd) (w : World) (hx : AnsIn w x h k t) (hy : AnsIn w y h' k' t') :
    Calls Tryz.prog 14 #[ansV x h k t, ansV y h' k' t'] w fun e w' => e = .returned (.bool (An.same x y)) ∧ Below w.heap.size w w' := by
  obtain ⟨exc, bits, words, texts⟩ := x
  obtain ⟨exc', bits', words', texts'⟩ := y
  obtain ⟨hA, hn, hc⟩ := h
  obtain ⟨kA, kn, kc⟩ := k
  obtain ⟨tA, tn, tc⟩ := t
  obtain ⟨hA', hn', hc'⟩ := h'
  obtain ⟨kA', kn', kc'⟩ := k'
  obtain ⟨tA', tn', tc'⟩ := t'
  have hb2 : Below w.heap.size w ((w.alloc (.cells #[.int .i64 exc, .slice hA hn hc, .slice kA kn kc, .slice tA tn tc] 33)).alloc (.cells #[.int .i64 exc', .slice hA' hn' hc', .slice kA' kn' kc', .slice tA' tn' tc'] 33)) := ((Below.refl _ _).alloc (Nat.le_refl _) _).alloc (by simp) _
  have e1 := Lib.hid (And.intro hx.hn (And.intro hy.hn (And.intro hx.kn (And.intro hy.kn (And.intro hx.tn hy.tn)))))
  have HX := Lib.hid (hx.below hb2)
  have HY := Lib.hid (hy.below hb2)
  have m1 : hn ≤ maxLen := Nat.le_trans hx.hc hx.hm
  have m2 : kn ≤ maxLen := Nat.le_trans hx.kc hx.km
  have m3 : tn ≤ maxLen := Nat.le_trans hx.tc hx.tm
  simp only at e1
  clear hx hy
  unfold ansV
  obtain ⟨V, hV⟩ : ∃ V, An.same ⟨exc, bits, words, texts⟩ ⟨exc', bits', words', texts'⟩ = V := ⟨_, rfl⟩
  have HF : Hid (V = (exc == exc' && bits == bits' && words == words' && decide (texts = texts'))) := Lib.hid (by rw [← hV]; rfl)
  rw [hV]
  clear hV
  go_enter Tryz.func14, Tryz.ntmps14
  by_cases he : exc = exc'
  · subst he
    have hee : (exc != exc) = false := by simp
    go_wp2_with fail
    refine (rsameb_any hA hA' hn hn' hc hc' bits bits' e1.out.1 e1.out.2.1 m1 _ HX.out.hl HY.out.hl).mono ?_
    rintro e w2 ⟨rfl, q, rfl⟩
    cases hbt : (bits == bits') with
    | false =>
      go_wp2_with fail
      go_ret
      exact ⟨by rw [HF.out, hbt]; simp, drewN_below hb2 _⟩
    | true =>
      rw [hbt] at HF
      go_wp2_with fail
      refine (rsame16_any kA kA' kn kn' kc kc' words words' e1.out.2.2.1 e1.out.2.2.2.1 m2 _ (HX.out.kl.drewN q) (HY.out.kl.drewN q)).mono ?_
      rintro e w3 ⟨rfl, q2, rfl⟩
      cases hwt : (words == words') with
      | false =>
        go_wp2_with fail
        go_ret
        exact ⟨by rw [HF.out, hwt]; simp, drewN_below hb2 _⟩
      | true =>
        rw [hwt] at HF
        have hrx := row_later (row_at w #[.int .i64 exc, .slice hA hn hc, .slice kA kn kc, .slice tA tn tc] 33 w.heap.size rfl) ((Below.refl _ _).alloc (Nat.le_refl _) (.cells #[.int .i64 exc, .slice hA' hn' hc', .slice kA' kn' kc', .slice tA' tn' tc'] 33))
        have hry := row_at (w.alloc (.cells #[.int .i64 exc, .slice hA hn hc, .slice kA kn kc, .slice tA tn tc] 33)) #[.int .i64 exc, .slice hA' hn' hc', .slice kA' kn' kc', .slice tA' tn' tc'] 33 (w.heap.size + 1) (by simp)
        have hlx := HX.out.tl
        have hly := HY.out.tl
        clear HX HY
        generalize (w.alloc (.cells #[.int .i64 exc, .slice hA hn hc, .slice kA kn kc, .slice tA tn tc] 33)).alloc (.cells #[.int .i64 exc, .slice hA' hn' hc', .slice kA' kn' kc', .slice tA' tn' tc'] 33) = W at *
        rw [World.drewN_drewN]
        generalize q + q2 = q3
        obtain ⟨-, -, -, zx⟩ := row_quad hrx
        obtain ⟨-, -, -, zy⟩ := row_quad hry
        have HLX := Lib.hid hlx
        have HLY := Lib.hid hly
        clear hrx hry hlx hly
        by_cases hnt : tn = tn'
        · subst hnt
          have hne : ((tn : Int) != (tn : Int)) = false := by simp
          have HLL : Hid (texts.length = tn ∧ texts'.length = tn) := Lib.hid ⟨e1.out.2.2.2.2.1, e1.out.2.2.2.2.2⟩
          unfold maxLen at m3
          clear e1
          go_wp2_with fail
          go_loopw [5] (fun i wr => ∃ j : Nat, j ≤ tn ∧ i = .int .i64 j ∧ texts.take j = texts'.take j ∧ ∃ q, wr = W.drewN q) (fun i _ => tn - (intOf i).toNat)
          case atStart => exact ⟨0, Nat.zero_le _, rfl, rfl, _, rfl⟩
          case round =>
            obtain ⟨j, hj, rfl, ht, q4, rfl⟩ := hrel
            have HT := Lib.hid ht
            clear ht
            by_cases hlt : j < tn
            · have hl1 : j < texts.length := by rw [HLL.out.1]; exact hlt
              have hl2 : j < texts'.length := by rw [HLL.out.2]; exact hlt
              obtain ⟨b1, o1, rfl, hc1⟩ := HLX.out j hl1
              obtain ⟨b2, o2, rfl, hc2⟩ := HLY.out j hl2
              have i1 : (j : Int) < (tn : Int) := by omega
              by_cases hx : texts[j] = texts'[j]
              · have HS := Lib.hid (take_step texts texts' j hl1 hl2 HT.out hx)
                rw [← hx] at hc2
                have hq := str_self texts[j]
                clear hx
                generalize texts[j] = s at *
                go_wp2_with fail
                go_quiet (fail)
                go_wp2_with fail
                go_roundw
                case rel => exact ⟨j + 1, by omega, by go_num, HS.out, _, rfl⟩
                case measure => simp [intOf]; omega
              · have HV : Hid (V = false) := Lib.hid (by
                  rw [HF.out, decide_eq_false (by rintro rfl; exact hx rfl)]; simp)
                have hq := str_ne hx
                rw [Go.beq_toListBytes] at hq
                clear hx
                generalize texts[j] = s at *
                generalize texts'[j] = s' at *
                go_wp2_with fail
                go_quiet (fail)
                go_wp2_with fail
                go_ret
                exact ⟨by rw [HV.out]; rfl, drewN_below (drewN_below hb2 _) _⟩
            · obtain rfl : j = tn := by omega
              have HV : Hid (V = true) := Lib.hid (by
                rw [HF.out, decide_eq_true (take_none (HLL.out.1.trans HLL.out.2.symm) (by rw [HLL.out.1]; exact HT.out))]; simp)
              go_wp2_with fail
              go_ret
              exact ⟨by rw [HV.out]; rfl, drewN_below hb2 _⟩
        · have hne : ((tn : Int) != (tn' : Int)) = true := by rw [bne_iff_ne]; omega
          have HV : Hid (V = false) := Lib.hid (by
            rw [HF.out, decide_eq_false (by rintro rfl; exact hnt (e1.out.2.2.2.2.1.symm.trans e1.out.2.2.2.2.2))]; simp)
          go_wp2_with fail
          go_ret
          exact ⟨by rw [HV.out]; rfl, drewN_below hb2 _⟩
  · have hee : (exc != exc') = true := by rw [bne_iff_ne]; exact he
    go_wp2_with fail
    go_ret
    exact ⟨by rw [HF.out]; simp [he], hb2⟩
end Go.Proofs.YtcbkbdoaaaofjaaGreat
