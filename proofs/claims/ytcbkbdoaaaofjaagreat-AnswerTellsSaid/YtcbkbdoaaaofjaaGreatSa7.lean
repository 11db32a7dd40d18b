
/-
  The landed answer: slices.Equal of texts, Same.
-/
import Derived.Test.YtcbkbdoaaaofjaaGreatAn2
import Derived.Test.YtcbkbdoaaaofjaaGreatSm
import Derived.Test.YtcbkbdoaaaofjaaGreatLy7
namespace Go.Proofs.YtcbkbdoaaaofjaaGreat
open Go.RowKit

set_option maxRecDepth 100000 in
set_option maxHeartbeats 400000 in
theorem equals_any (A1 A2 : Option Addr) (n m c d : Nat) (l k : List ByteArray) (hn : l.length = n) (hm : k.length = m) (hmn : n ≤ maxLen) (w : World) (h1 : Lies strv w A1 l) (h2 : Lies strv w A2 k) :
    Calls Tryz.prog 30 #[.slice A1 n c, .slice A2 m d] w fun e w' => e = .returned (.bool (decide (l = k))) ∧ ∃ q, w' = w.drewN q := by
  subst hn
  subst hm
  unfold maxLen at hmn
  by_cases hlen : l.length = k.length
  · have he : ((l.length : Int) != (k.length : Int)) = false := by rw [hlen]; simp
    have HLEN := Lib.hid hlen
    have hle : l.length ≤ k.length := by omega
    clear hlen
    go_enter Tryz.func30, Tryz.ntmps30
    go_wp2
    go_loopw [5, 13] (fun _ i wr => ∃ j : Nat, j ≤ l.length ∧ i = .int .i64 j ∧ l.take j = k.take j ∧ ∃ q, wr = w.drewN q) (fun _ i _ => l.length - (intOf i).toNat)
    case atStart => exact ⟨0, Nat.zero_le _, rfl, rfl, 0, rfl⟩
    case round =>
      obtain ⟨j, hj, rfl, ht, q, rfl⟩ := hrel
      have HT := Lib.hid ht
      clear ht
      by_cases hlt : j < l.length
      · obtain ⟨b1, o1, rfl, hc1⟩ := h1 j hlt
        have hlt2 : j < k.length := by omega
        obtain ⟨b2, o2, rfl, hc2⟩ := h2 j hlt2
        by_cases hx : l[j] = k[j]
        · have HS := Lib.hid (take_step l k j hlt hlt2 HT.out hx)
          rw [← hx] at hc2
          have hq := str_self l[j]
          clear hx
          generalize l[j] = x at *
          go_wp2
          go_quiet (fail)
          go_wp2
          go_roundw
          case rel => exact ⟨j + 1, by omega, by go_num, HS.out, _, rfl⟩
          case measure => simp [intOf]; omega
        · have HS : Hid (decide (l = k) = false) := Lib.hid (decide_eq_false (by rintro rfl; exact hx rfl))
          have hq := str_ne hx
          rw [Go.beq_toListBytes] at hq
          clear hx
          generalize l[j] = x at *
          generalize k[j] = y at *
          go_wp2
          go_quiet (fail)
          go_wp2
          go_ret
          exact ⟨by rw [HS.out]; rfl, _, World.drewN_drewN _ _ _⟩
      · obtain rfl : j = l.length := by omega
        have HS : Hid (decide (l = k) = true) := Lib.hid (decide_eq_true (take_none HLEN.out HT.out))
        go_wp2
        go_ret
        exact ⟨by rw [HS.out]; rfl, _, rfl⟩
  · have he : ((l.length : Int) != (k.length : Int)) = true := by rw [bne_iff_ne]; omega
    have HS : Hid (decide (l = k) = false) := Lib.hid (decide_eq_false (by rintro rfl; exact hlen rfl))
    clear hlen
    go_enter Tryz.func30, Tryz.ntmps30
    go_wp2
    go_ret
    exact ⟨by rw [HS.out]; rfl, 0, rfl⟩

set_option maxRecDepth 100000 in
set_option maxHeartbeats 4000000 in
theorem same7_any (x y : Ans) (h k t h' k' t' : Hd) (w : World) (hx : AnsIn w x h k t) (hy : AnsIn w y h' k' t') :
    Calls Tryz.prog 17 #[ansV x h k t, ansV y h' k' t'] w fun e w' => e = .returned (.bool (An.same x y)) ∧ Below w.heap.size w w' := by
  obtain ⟨exc, bits, words, texts⟩ := x
  obtain ⟨exc', bits', words', texts'⟩ := y
  obtain ⟨hA, hn, hc⟩ := h
  obtain ⟨kA, kn, kc⟩ := k
  obtain ⟨tA, tn, tc⟩ := t
  obtain ⟨hA', hn', hc'⟩ := h'
  obtain ⟨kA', kn', kc'⟩ := k'
  obtain ⟨tA', tn', tc'⟩ := t'
  have hb2 : Below w.heap.size w ((w.alloc (.cells #[.int .i64 exc, .slice hA hn hc, .slice kA kn kc, .slice tA tn tc] 29)).alloc (.cells #[.int .i64 exc', .slice hA' hn' hc', .slice kA' kn' kc', .slice tA' tn' tc'] 29)) := ((Below.refl _ _).alloc (Nat.le_refl _) _).alloc (by simp) _
  have hrx := old_at7 (row_at w #[.int .i64 exc, .slice hA hn hc, .slice kA kn kc, .slice tA tn tc] 29 w.heap.size rfl) (.cells #[.int .i64 exc', .slice hA' hn' hc', .slice kA' kn' kc', .slice tA' tn' tc'] 29)
  have hry := row_at (w.alloc (.cells #[.int .i64 exc, .slice hA hn hc, .slice kA kn kc, .slice tA tn tc] 29)) #[.int .i64 exc', .slice hA' hn' hc', .slice kA' kn' kc', .slice tA' tn' tc'] 29 (w.heap.size + 1) (by simp)
  have e1 := Lib.hid (And.intro hx.hn (And.intro hy.hn (And.intro hx.kn (And.intro hy.kn (And.intro hx.tn hy.tn)))))
  have HX := Lib.hid (hx.below hb2)
  have HY := Lib.hid (hy.below hb2)
  have m1 : hn ≤ maxLen := Nat.le_trans hx.hc hx.hm
  have m2 : kn ≤ maxLen := Nat.le_trans hx.kc hx.km
  have m3 : tn ≤ maxLen := Nat.le_trans hx.tc hx.tm
  simp only at e1
  clear hx hy
  obtain ⟨V, hV⟩ : ∃ V, An.same ⟨exc, bits, words, texts⟩ ⟨exc', bits', words', texts'⟩ = V := ⟨_, rfl⟩
  have HF : Hid (V = (exc == exc' && bits == bits' && words == words' && decide (texts = texts'))) := Lib.hid (by rw [← hV]; rfl)
  rw [hV]
  clear hV
  have HE1 := Lib.hid (fun W h1 h2 => equalb_any hA hA' hn hn' hc hc' bits bits' e1.out.1 e1.out.2.1 m1 W h1 h2)
  have HE2 := Lib.hid (fun W h1 h2 => equal16_any kA kA' kn kn' kc kc' words words' e1.out.2.2.1 e1.out.2.2.2.1 m2 W h1 h2)
  have HE3 := Lib.hid (fun W h1 h2 => equals_any tA tA' tn tn' tc tc' texts texts' e1.out.2.2.2.2.1 e1.out.2.2.2.2.2 m3 W h1 h2)
  unfold ansV
  go_enter Tryz.func17, Tryz.ntmps17
  obtain ⟨x0, x1, x2, x3⟩ := row_quad hrx
  obtain ⟨y0, y1, y2, y3⟩ := row_quad hry
  clear hrx hry m1 m2 m3 e1
  by_cases he : exc = exc'
  · subst he
    have hee : (exc == exc) = true := by simp
    cases hbt : (bits == bits') with
    | false =>
      rw [hbt] at HF HE1
      go_wp2_with fail
      refine (HE1.out _ HX.out.hl HY.out.hl).mono ?_
      rintro e w2 ⟨rfl, q, rfl⟩
      go_wp2_with fail
      go_ret
      exact ⟨by rw [HF.out]; simp, drewN_below hb2 _⟩
    | true =>
      rw [hbt] at HF HE1
      cases hwt : (words == words') with
      | false =>
        rw [hwt] at HF HE2
        go_wp2_with fail
        refine (HE1.out _ HX.out.hl HY.out.hl).mono ?_
        rintro e w2 ⟨rfl, q, rfl⟩
        go_wp2_with fail
        refine (HE2.out _ (HX.out.kl.drewN q) (HY.out.kl.drewN q)).mono ?_
        rintro e w2 ⟨rfl, q2, rfl⟩
        go_wp2_with fail
        go_ret
        exact ⟨by rw [HF.out]; simp, drewN_below hb2 _⟩
      | true =>
        rw [hwt] at HF HE2
        go_wp2_with fail
        refine (HE1.out _ HX.out.hl HY.out.hl).mono ?_
        rintro e w2 ⟨rfl, q, rfl⟩
        go_wp2_with fail
        refine (HE2.out _ (HX.out.kl.drewN q) (HY.out.kl.drewN q)).mono ?_
        rintro e w2 ⟨rfl, q2, rfl⟩
        go_wp2_with fail
        refine (HE3.out _ (HX.out.tl.drewN _) (HY.out.tl.drewN _)).mono ?_
        rintro e w2 ⟨rfl, q3, rfl⟩
        go_wp2_with fail
        go_ret
        exact ⟨by rw [HF.out]; simp, drewN_below hb2 _⟩
  · have hee : (exc == exc') = false := beq_eq_false_iff_ne.2 he
    go_wp2_with fail
    go_ret
    exact ⟨by rw [HF.out, hee]; simp, hb2⟩
end Go.Proofs.YtcbkbdoaaaofjaaGreat

/-
  The landed answer: textsCome, comes, Right.
-/
namespace Go.Proofs.YtcbkbdoaaaofjaaGreat
open Go.RowKit

namespace An
/-- How many bytes texts have, from n on. -/
def sumT : Nat → List ByteArray → Nat
  | n, [] => n
  | n, s :: r => sumT (n + (2 + s.size)) r
theorem sumT_le (l : List ByteArray) : ∀ n, n ≤ sumT n l := by
  induction l with
  | nil => intro n; exact Nat.le_refl _
  | cons s r ih => intro n; have := ih (n + (2 + s.size)); show _ ≤ sumT (n + (2 + s.size)) r; omega
theorem longF_small (l : List ByteArray) : ∀ n, (longF n l ≤ 253 ↔ sumT n l ≤ 253) := by
  induction l with
  | nil => intro n; exact Iff.rfl
  | cons s r ih =>
    intro n
    by_cases h : n < 1000
    · rw [longF_cons n s r h, ih, Nat.add_assoc]; rfl
    · rw [longF_stop _ _ h]
      have := sumT_le (s :: r) n
      omega
theorem sumT_snoc (l : List ByteArray) (s : ByteArray) : ∀ n, sumT n (l ++ [s]) = sumT n l + (2 + s.size) := by
  induction l with
  | nil => intro n; rfl
  | cons t r ih => intro n; exact ih _
theorem sumT_bound (l : List ByteArray) : ∀ n, (∀ s ∈ l, s.size ≤ 245) → sumT n l ≤ n + 247 * l.length := by
  induction l with
  | nil => intro n _; show n ≤ _; omega
  | cons s r ih =>
    intro n h
    have h1 := ih (n + (2 + s.size)) (fun x hx => h x (by simp [hx]))
    have h2 := h s (by simp)
    show sumT (n + (2 + s.size)) r ≤ _
    rw [List.length_cons]
    omega
def textsC (a : Ask) (l : List ByteArray) : Bool :=
  if a.code = 43 then decide (0 < l.length) && decide (a.addr + l.length ≤ 256) && l.all (fun s => decide (s.size ≤ 245)) && decide (sumT 7 l ≤ 253) else decide (l.length = 0)
/-- What the landed comes answers, where the request may be: whether it may come. -/
def comesC (a : Ask) (x : Ans) : Bool :=
  if x.exc = 0 then decide ((x.bits.length : Int) = wantBits a x) && decide ((x.words.length : Int) = wantWords a x) && textsC a x.texts
  else decide (1 ≤ x.exc) && decide (x.exc ≤ 255) && same x ⟨x.exc, [], [], []⟩
theorem comesC_eq {a : Ask} (h : Ak.right a = true) (x : Ans) : comesC a x = right a x := by
  unfold comesC right
  rw [h]
  by_cases hx : x.exc = 0
  · rw [if_pos hx, hx]
    by_cases hc : a.code = 43
    · have hw : wantTexts a x = true := by unfold wantTexts; rw [hx, hc]; rfl
      rw [hw]
      unfold textsC
      rw [if_pos hc]
      have hs : shortTexts x.texts = (x.texts.take 300).all (fun s => decide (s.size ≤ 245)) := rfl
      by_cases hl : a.addr + x.texts.length ≤ 256
      · have ha0 : 0 ≤ a.addr := (Ak.formed_parts (ak_right h).1).2.2.2.2.2.2.1
        rw [hs, List.take_of_length_le (by omega)]
        have h7 := longF_small x.texts 7
        have e7 : decide (long x.texts ≤ 253) = decide (sumT 7 x.texts ≤ 253) := by unfold long; exact decide_eq_decide.2 h7
        rw [e7]
        simp [hl, Bool.and_assoc, Bool.and_comm, Bool.and_left_comm]
      · simp [hl]
    · have hw : wantTexts a x = false := by unfold wantTexts; rw [beq_eq_false_iff_ne.2 hc, Bool.and_false]
      rw [hw]
      unfold textsC
      rw [if_neg hc]
      cases hl : x.texts with
      | nil => simp [shortTexts]
      | cons s r => simp
  · rw [if_neg hx]
    have hw : wantTexts a x = false := by unfold wantTexts; rw [beq_eq_false_iff_ne.2 hx, Bool.false_and]
    have hb : wantBits a x = 0 := by unfold wantBits; rw [if_neg (fun g => hx g.1)]
    have hk : wantWords a x = 0 := by unfold wantWords; rw [if_neg (fun g => hx g.1)]
    rw [hw, hb, hk]
    obtain ⟨exc, bits, words, texts⟩ := x
    unfold same
    simp only at *
    have e0 : decide (0 ≤ exc) = decide (1 ≤ exc) := decide_eq_decide.2 (by omega)
    rw [e0]
    cases bits with
    | cons y r => simp; intros; omega
    | nil => cases words with
      | cons y r => simp; intros; omega
      | nil => cases texts with
        | cons y r => simp
        | nil => simp [shortTexts]
end An

set_option maxRecDepth 100000 in
set_option maxHeartbeats 1000000 in
theorem textsCome_any (a : Ask) (h k : Hd) (A : Option Addr) (n c : Nat) (l : List ByteArray) (hn : l.length = n) (hm : n ≤ 1000000) (ha0 : 0 ≤ a.addr) (ha1 : a.addr ≤ 65535) (hts : ∀ s ∈ l, s.size ≤ 140737488355328) (w : World) (hl : Lies strv w A l) :
    Calls Tryz.prog 33 #[askV a h k, .slice A n c] w fun e w' => e = .returned (.bool (An.textsC a l)) ∧ Below w.heap.size w w' := by
  obtain ⟨code, addr, count, to, words, bits, and_, or_⟩ := a
  obtain ⟨an, rfl⟩ := Int.eq_ofNat_of_zero_le (show 0 ≤ addr from ha0)
  have ha1 : (an : Int) ≤ 65535 := ha1
  have hra := row_at w #[.int .i64 code, .int .i64 (an : Int), .int .i64 count, .int .i64 to, .slice h.1 h.2.1 h.2.2, .slice k.1 k.2.1 k.2.2, u16v and_, u16v or_] 26 w.heap.size rfl
  have hb0 : Below w.heap.size w (w.alloc (.cells #[.int .i64 code, .int .i64 (an : Int), .int .i64 count, .int .i64 to, .slice h.1 h.2.1 h.2.2, .slice k.1 k.2.1 k.2.2, u16v and_, u16v or_] 26)) := (Below.refl _ _).alloc (Nat.le_refl _) _
  have hl1 := Lib.hid (hl.below hb0 (Nat.le_refl _))
  have HT := Lib.hid hts
  have HN := Lib.hid hn
  clear hl ha0 hts hn
  obtain ⟨V, hV⟩ : ∃ V, An.textsC ⟨code, (an : Int), count, to, words, bits, and_, or_⟩ l = V := ⟨_, rfl⟩
  have HF : Hid (V = if code = 43 then decide (0 < n) && decide ((an : Int) + n ≤ 256) && l.all (fun s => decide (s.size ≤ 245)) && decide (An.sumT 7 l ≤ 253) else decide (n = 0)) := Lib.hid (by rw [← hV, ← HN.out]; rfl)
  rw [hV, askV_eq]
  clear hV
  by_cases hc : code = 43
  · subst hc
    by_cases h0 : n = 0
    · subst h0
      have HV : Hid (V = false) := Lib.hid (by rw [HF.out]; simp)
      go_enter Tryz.func33, Tryz.ntmps33
      obtain ⟨r0, r1, -⟩ := row_eight hra
      go_wp2_with fail
      go_ret
      exact ⟨by rw [HV.out]; rfl, hb0⟩
    · have e0 : ((n : Int) == 0) = false := by rw [beq_eq_false_iff_ne]; omega
      by_cases h256 : (an : Int) + (n : Int) ≤ 256
      · have e1 : ¬ (an : Int) + (n : Int) > 256 := by omega
        have HV : Hid (V = (l.all (fun s => decide (s.size ≤ 245)) && decide (An.sumT 7 l ≤ 253))) := Lib.hid (by rw [HF.out, if_pos rfl, decide_eq_true (show 0 < n by omega), decide_eq_true h256]; rfl)
        clear HF
        go_enter Tryz.func33, Tryz.ntmps33
        obtain ⟨r0, r1, -⟩ := row_eight hra
        go_wp2_with fail
        go_loop [5, 27] (fun sv iv => ∃ j m : Nat, j ≤ n ∧ iv = .int .i64 j ∧ sv = .int .i64 m ∧ Hid (m = An.sumT 7 (l.take j)) ∧ Hid (∀ s ∈ l.take j, s.size ≤ 245) ∧ m ≤ 7 + 247 * j) (fun _ iv => n - (intOf iv).toNat)
        case atStart => exact ⟨0, 7, Nat.zero_le _, rfl, rfl, Lib.hid rfl, Lib.hid (by simp), by omega⟩
        case round =>
          obtain ⟨j, m, hj, rfl, rfl, HM, HA, hmb⟩ := hrel
          by_cases hlt : j < n
          · have i1 : (j : Int) < (n : Int) := by omega
            have hj1 : j < l.length := by rw [HN.out]; exact hlt
            obtain ⟨b1, o1, rfl, hc1⟩ := hl1.out j hj1
            have hsz := HT.out l[j] (List.getElem_mem hj1)
            have HD : Hid (An.sumT 7 (l.take (j + 1)) = m + (2 + (l[j]).size)) := Lib.hid (by rw [List.take_succ_eq_append_getElem hj1, An.sumT_snoc, ← HM.out])
            have HAL : Hid ((l[j]).size ≤ 245 → ∀ s ∈ l.take (j + 1), s.size ≤ 245) := Lib.hid (fun hle s hs => by
              rw [List.take_succ_eq_append_getElem hj1, List.mem_append, List.mem_singleton] at hs
              rcases hs with hs | rfl
              · exact HA.out s hs
              · exact hle)
            have HNO : Hid (¬ (l[j]).size ≤ 245 → V = false) := Lib.hid (fun hno => by
              rw [HV.out, Bool.and_eq_false_iff]
              left
              rw [← Bool.not_eq_true, List.all_eq_true]
              intro hall
              exact hno (by simpa using hall _ (List.getElem_mem hj1)))
            generalize l[j] = s at *
            by_cases h245 : s.size ≤ 245
            · have i2 : ¬ (s.size : Int) > 245 := by omega
              have HAL2 := Lib.hid (HAL.out h245)
              clear HNO HAL
              go_wp2_with fail
              go_round
              case rel => exact ⟨j + 1, m + (2 + s.size), by omega, by go_num, by go_num, Lib.hid HD.out.symm, HAL2, by omega⟩
              case measure => simp [intOf]; omega
            · have i2 : (s.size : Int) > 245 := by omega
              have HVV := Lib.hid (HNO.out h245)
              clear HNO HAL
              go_wp2_with fail
              go_ret
              exact ⟨by rw [HVV.out]; rfl, hb0⟩
          · obtain rfl : j = n := by omega
            have i1 : ¬ (j : Int) < (j : Int) := by omega
            have HTK : Hid (l.take j = l) := Lib.hid (by rw [← HN.out, List.take_length])
            rw [HTK.out] at HM HA
            have HVV : Hid (V = decide ((m : Int) ≤ 253)) := Lib.hid (by
              rw [HV.out, List.all_eq_true.2 (fun s hs => decide_eq_true (HA.out s hs)), Bool.true_and, ← HM.out]
              exact decide_eq_decide.2 (by omega))
            go_wp2_with fail
            go_ret
            exact ⟨by rw [HVV.out]; rfl, hb0⟩
      · have e1 : (an : Int) + (n : Int) > 256 := by omega
        have HV : Hid (V = false) := Lib.hid (by rw [HF.out, if_pos rfl, decide_eq_false h256]; simp)
        go_enter Tryz.func33, Tryz.ntmps33
        obtain ⟨r0, r1, -⟩ := row_eight hra
        go_wp2_with fail
        go_ret
        exact ⟨by rw [HV.out]; rfl, hb0⟩
  · have e0 : (code != 43) = true := by rw [bne_iff_ne]; exact hc
    have HV : Hid (V = ((n : Int) == 0)) := Lib.hid (by rw [HF.out, if_neg hc]; cases n <;> rfl)
    go_enter Tryz.func33, Tryz.ntmps33
    obtain ⟨r0, r1, -⟩ := row_eight hra
    go_wp2_with fail
    go_ret
    exact ⟨by rw [HV.out]; rfl, hb0⟩
end Go.Proofs.YtcbkbdoaaaofjaaGreat
