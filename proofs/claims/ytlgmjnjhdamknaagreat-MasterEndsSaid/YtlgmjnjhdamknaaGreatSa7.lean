
/-
  The landed answer: slices.Equal of texts, Same.
-/
import Derived.Test.YtlgmjnjhdamknaaGreatRm
import Derived.Test.YtlgmjnjhdamknaaGreatRask2
import Derived.Test.YtlgmjnjhdamknaaGreatRe7
namespace Go.Proofs.YtlgmjnjhdamknaaGreat
open Go.RowKit

set_option maxRecDepth 100000 in
set_option maxHeartbeats 400000 in
theorem equals_any (A1 A2 : Option Addr) (n m c d : Nat) (l k : List ByteArray) (hn : l.length = n) (hm : k.length = m) (hmn : n ≤ maxLen) (w : World) (h1 : Lies strv w A1 l) (h2 : Lies strv w A2 k) :
    Calls Tryz.prog 53 #[.slice A1 n c, .slice A2 m d] w fun e w' => e = .returned (.bool (decide (l = k))) ∧ ∃ q, w' = w.drewN q := by
  subst hn
  subst hm
  unfold maxLen at hmn
  by_cases hlen : l.length = k.length
  · have he : ((l.length : Int) != (k.length : Int)) = false := by rw [hlen]; simp
    have HLEN := Lib.hid hlen
    have hle : l.length ≤ k.length := by omega
    clear hlen
    go_enter Tryz.func53, Tryz.ntmps53
    go_wp2
    go_loopw [5, 13] (fun _ i wr => ∃ j : Nat, j ≤ l.length ∧ i = .int .i64 j ∧ l.take j = k.take j ∧ ∃ q, wr = w.drewN q) (fun _ i _ => l.length - (intOf i).toNat)
    case atStart => exact ⟨0, Nat.zero_le _, rfl, rfl, 0, rfl⟩
    case round =>
      obtain ⟨j, hj, rfl, ht, q, rfl⟩ := hrel
      have HT := Lib.hid ht
      clear ht
      by_cases hlt : j < l.length
      · obtain ⟨b1, o1, rfl, hc1⟩ := h1 j hlt
        have hlt2 : j < k.length := by omega
        obtain ⟨b2, o2, rfl, hc2⟩ := h2 j hlt2
        by_cases hx : l[j] = k[j]
        · have HS := Lib.hid (take_step l k j hlt hlt2 HT.out hx)
          rw [← hx] at hc2
          have hq := str_self l[j]
          clear hx
          generalize l[j] = x at *
          go_wp2
          go_quiet (fail)
          go_wp2
          go_roundw
          case rel => exact ⟨j + 1, by omega, by go_num, HS.out, _, rfl⟩
          case measure => simp [intOf]; omega
        · have HS : Hid (decide (l = k) = false) := Lib.hid (decide_eq_false (by rintro rfl; exact hx rfl))
          have hq := str_ne hx
          rw [Go.beq_toListBytes] at hq
          clear hx
          generalize l[j] = x at *
          generalize k[j] = y at *
          go_wp2
          go_quiet (fail)
          go_wp2
          go_ret
          exact ⟨by rw [HS.out]; rfl, _, World.drewN_drewN _ _ _⟩
      · obtain rfl : j = l.length := by omega
        have HS : Hid (decide (l = k) = true) := Lib.hid (decide_eq_true (take_none HLEN.out HT.out))
        go_wp2
        go_ret
        exact ⟨by rw [HS.out]; rfl, _, rfl⟩
  · have he : ((l.length : Int) != (k.length : Int)) = true := by rw [bne_iff_ne]; omega
    have HS : Hid (decide (l = k) = false) := Lib.hid (decide_eq_false (by rintro rfl; exact hlen rfl))
    clear hlen
    go_enter Tryz.func53, Tryz.ntmps53
    go_wp2
    go_ret
    exact ⟨by rw [HS.out]; rfl, 0, rfl⟩

set_option maxRecDepth 100000 in
set_option maxHeartbeats 4000000 in
theorem same7_any (x y : Ans) (h k t h' k' t' : Hd) (w : World) (hx : AnsIn w x h k t) (hy : AnsIn w y h' k' t') :
    Calls Tryz.prog 27 #[ansV x h k t, ansV y h' k' t'] w fun e w' => e = .returned (.bool (An.same x y)) ∧ Below w.heap.size w w' := by
  obtain ⟨exc, bits, words, texts⟩ := x
  obtain ⟨exc', bits', words', texts'⟩ := y
  obtain ⟨hA, hn, hc⟩ := h
  obtain ⟨kA, kn, kc⟩ := k
  obtain ⟨tA, tn, tc⟩ := t
  obtain ⟨hA', hn', hc'⟩ := h'
  obtain ⟨kA', kn', kc'⟩ := k'
  obtain ⟨tA', tn', tc'⟩ := t'
  have hb2 : Below w.heap.size w ((w.alloc (.cells #[.int .i64 exc, .slice hA hn hc, .slice kA kn kc, .slice tA tn tc] 46)).alloc (.cells #[.int .i64 exc', .slice hA' hn' hc', .slice kA' kn' kc', .slice tA' tn' tc'] 46)) := ((Below.refl _ _).alloc (Nat.le_refl _) _).alloc (by simp) _
  have hrx := old_at7 (row_at w #[.int .i64 exc, .slice hA hn hc, .slice kA kn kc, .slice tA tn tc] 46 w.heap.size rfl) (.cells #[.int .i64 exc', .slice hA' hn' hc', .slice kA' kn' kc', .slice tA' tn' tc'] 46)
  have hry := row_at (w.alloc (.cells #[.int .i64 exc, .slice hA hn hc, .slice kA kn kc, .slice tA tn tc] 46)) #[.int .i64 exc', .slice hA' hn' hc', .slice kA' kn' kc', .slice tA' tn' tc'] 46 (w.heap.size + 1) (by simp)
  have e1 := Lib.hid (And.intro hx.hn (And.intro hy.hn (And.intro hx.kn (And.intro hy.kn (And.intro hx.tn hy.tn)))))
  have HX := Lib.hid (hx.below hb2)
  have HY := Lib.hid (hy.below hb2)
  have m1 : hn ≤ maxLen := Nat.le_trans hx.hc hx.hm
  have m2 : kn ≤ maxLen := Nat.le_trans hx.kc hx.km
  have m3 : tn ≤ maxLen := Nat.le_trans hx.tc hx.tm
  simp only at e1
  clear hx hy
  obtain ⟨V, hV⟩ : ∃ V, An.same ⟨exc, bits, words, texts⟩ ⟨exc', bits', words', texts'⟩ = V := ⟨_, rfl⟩
  have HF : Hid (V = (exc == exc' && bits == bits' && words == words' && decide (texts = texts'))) := Lib.hid (by rw [← hV]; rfl)
  rw [hV]
  clear hV
  have HE1 := Lib.hid (fun W h1 h2 => equalb_any hA hA' hn hn' hc hc' bits bits' e1.out.1 e1.out.2.1 m1 W h1 h2)
  have HE2 := Lib.hid (fun W h1 h2 => equal16_any kA kA' kn kn' kc kc' words words' e1.out.2.2.1 e1.out.2.2.2.1 m2 W h1 h2)
  have HE3 := Lib.hid (fun W h1 h2 => equals_any tA tA' tn tn' tc tc' texts texts' e1.out.2.2.2.2.1 e1.out.2.2.2.2.2 m3 W h1 h2)
  unfold ansV
  go_enter Tryz.func27, Tryz.ntmps27
  obtain ⟨x0, x1, x2, x3⟩ := row_quad hrx
  obtain ⟨y0, y1, y2, y3⟩ := row_quad hry
  clear hrx hry m1 m2 m3 e1
  by_cases he : exc = exc'
  · subst he
    have hee : (exc == exc) = true := by simp
    cases hbt : (bits == bits') with
    | false =>
      rw [hbt] at HF HE1
      go_wp2_with fail
      refine (HE1.out _ HX.out.hl HY.out.hl).mono ?_
      rintro e w2 ⟨rfl, q, rfl⟩
      go_wp2_with fail
      go_ret
      exact ⟨by rw [HF.out]; simp, drewN_below hb2 _⟩
    | true =>
      rw [hbt] at HF HE1
      cases hwt : (words == words') with
      | false =>
        rw [hwt] at HF HE2
        go_wp2_with fail
        refine (HE1.out _ HX.out.hl HY.out.hl).mono ?_
        rintro e w2 ⟨rfl, q, rfl⟩
        go_wp2_with fail
        refine (HE2.out _ (HX.out.kl.drewN q) (HY.out.kl.drewN q)).mono ?_
        rintro e w2 ⟨rfl, q2, rfl⟩
        go_wp2_with fail
        go_ret
        exact ⟨by rw [HF.out]; simp, drewN_below hb2 _⟩
      | true =>
        rw [hwt] at HF HE2
        go_wp2_with fail
        refine (HE1.out _ HX.out.hl HY.out.hl).mono ?_
        rintro e w2 ⟨rfl, q, rfl⟩
        go_wp2_with fail
        refine (HE2.out _ (HX.out.kl.drewN q) (HY.out.kl.drewN q)).mono ?_
        rintro e w2 ⟨rfl, q2, rfl⟩
        go_wp2_with fail
        refine (HE3.out _ (HX.out.tl.drewN _) (HY.out.tl.drewN _)).mono ?_
        rintro e w2 ⟨rfl, q3, rfl⟩
        go_wp2_with fail
        go_ret
        exact ⟨by rw [HF.out]; simp, drewN_below hb2 _⟩
  · have hee : (exc == exc') = false := beq_eq_false_iff_ne.2 he
    go_wp2_with fail
    go_ret
    exact ⟨by rw [HF.out, hee]; simp, hb2⟩
end Go.Proofs.YtlgmjnjhdamknaaGreat

/-
  The landed answer: textsCome, comes, Right.
-/
namespace Go.Proofs.YtlgmjnjhdamknaaGreat
open Go.RowKit

namespace An
/-- How many bytes texts have, from n on. -/
def sumT : Nat → List ByteArray → Nat
  | n, [] => n
  | n, s :: r => sumT (n + (2 + s.size)) r
theorem sumT_le (l : List ByteArray) : ∀ n, n ≤ sumT n l := by
  induction l with
  | nil => intro n; exact Nat.le_refl _
  | cons s r ih => intro n; have := ih (n + (2 + s.size)); show _ ≤ sumT (n + (2 + s.size)) r; omega
theorem longF_small (l : List ByteArray) : ∀ n, (longF n l ≤ 253 ↔ sumT n l ≤ 253) := by
  induction l with
  | nil => intro n; exact Iff.rfl
  | cons s r ih =>
    intro n
    by_cases h : n < 1000
    · rw [longF_cons n s r h, ih, Nat.add_assoc]; rfl
    · rw [longF_stop _ _ h]
      have := sumT_le (s :: r) n
      omega
theorem sumT_snoc (l : List ByteArray) (s : ByteArray) : ∀ n, sumT n (l ++ [s]) = sumT n l + (2 + s.size) := by
  induction l with
  | nil => intro n; rfl
  | cons t r ih => intro n; exact ih _
theorem sumT_bound (l : List ByteArray) : ∀ n, (∀ s ∈ l, s.size ≤ 245) → sumT n l ≤ n + 247 * l.length := by
  induction l with
  | nil => intro n _; show n ≤ _; omega
  | cons s r ih =>
    intro n h
    have h1 := ih (n + (2 + s.size)) (fun x hx => h x (by simp [hx]))
    have h2 := h s (by simp)
    show sumT (n + (2 + s.size)) r ≤ _
    rw [List.length_cons]
    omega
def textsC (a : Ask) (l : List ByteArray) : Bool :=
  if a.code = 43 then decide (0 < l.length) && decide (a.addr + l.length ≤ 256) && l.all (fun s => decide (s.size ≤ 245)) && decide (sumT 7 l ≤ 253) else decide (l.length = 0)
/-- What the landed comes answers, where the request may be: whether it may come. -/
def comesC (a : Ask) (x : Ans) : Bool :=
  if x.exc = 0 then decide ((x.bits.length : Int) = wantBits a x) && decide ((x.words.length : Int) = wantWords a x) && textsC a x.texts
  else decide (1 ≤ x.exc) && decide (x.exc ≤ 255) && same x ⟨x.exc, [], [], []⟩
theorem comesC_eq {a : Ask} (h : Ak.right a = true) (x : Ans) : comesC a x = right a x := by
  unfold comesC right
  rw [h]
  by_cases hx : x.exc = 0
  · rw [if_pos hx, hx]
    by_cases hc : a.code = 43
    · have hw : wantTexts a x = true := by unfold wantTexts; rw [hx, hc]; rfl
      rw [hw]
      unfold textsC
      rw [if_pos hc]
      have hs : shortTexts x.texts = (x.texts.take 300).all (fun s => decide (s.size ≤ 245)) := rfl
      by_cases hl : a.addr + x.texts.length ≤ 256
      · have ha0 : 0 ≤ a.addr := (Ak.formed_parts (ak_right h).1).2.2.2.2.2.2.1
        rw [hs, List.take_of_length_le (by omega)]
        have h7 := longF_small x.texts 7
        have e7 : decide (long x.texts ≤ 253) = decide (sumT 7 x.texts ≤ 253) := by unfold long; exact decide_eq_decide.2 h7
        rw [e7]
        simp [hl, Bool.and_assoc, Bool.and_comm, Bool.and_left_comm]
      · simp [hl]
    · have hw : wantTexts a x = false := by unfold wantTexts; rw [beq_eq_false_iff_ne.2 hc, Bool.and_false]
      rw [hw]
      unfold textsC
      rw [if_neg hc]
      cases hl : x.texts with
      | nil => simp [shortTexts]
      | cons s r => simp
  · rw [if_neg hx]
    have hw : wantTexts a x = false := by unfold wantTexts; rw [beq_eq_false_iff_ne.2 hx, Bool.false_and]
    have hb : wantBits a x = 0 := by unfold wantBits; rw [if_neg (fun g => hx g.1)]
    have hk : wantWords a x = 0 := by unfold wantWords; rw [if_neg (fun g => hx g.1)]
    rw [hw, hb, hk]
    obtain ⟨exc, bits, words, texts⟩ := x
    unfold same
    simp only at *
    have e0 : decide (0 ≤ exc) = decide (1 ≤ exc) := decide_eq_decide.2 (by omega)
    rw [e0]
    cases bits with
    | cons y r => simp; intros; omega
    | nil => cases words with
      | cons y r => simp; intros; omega
      | nil => cases texts with
        | cons y r => simp
        | nil => simp [shortTexts]
end An

set_option maxRecDepth 100000 in
set_option maxHeartbeats 1000000 in
theorem textsCome_any (a : Ask) (h k : Hd) (A : Option Addr) (n c : Nat) (l : List ByteArray) (hn : l.length = n) (hm : n ≤ 1000000) (ha0 : 0 ≤ a.addr) (ha1 : a.addr ≤ 65535) (hts : ∀ s ∈ l, s.size ≤ 140737488355328) (w : World) (hl : Lies strv w A l) :
    Calls Tryz.prog 95 #[askV a h k, .slice A n c] w fun e w' => e = .returned (.bool (An.textsC a l)) ∧ Below w.heap.size w w' := by
  obtain ⟨code, addr, count, to, words, bits, and_, or_⟩ := a
  obtain ⟨an, rfl⟩ := Int.eq_ofNat_of_zero_le (show 0 ≤ addr from ha0)
  have ha1 : (an : Int) ≤ 65535 := ha1
  have hra := row_at w #[.int .i64 code, .int .i64 (an : Int), .int .i64 count, .int .i64 to, .slice h.1 h.2.1 h.2.2, .slice k.1 k.2.1 k.2.2, u16v and_, u16v or_] 40 w.heap.size rfl
  have hb0 : Below w.heap.size w (w.alloc (.cells #[.int .i64 code, .int .i64 (an : Int), .int .i64 count, .int .i64 to, .slice h.1 h.2.1 h.2.2, .slice k.1 k.2.1 k.2.2, u16v and_, u16v or_] 40)) := (Below.refl _ _).alloc (Nat.le_refl _) _
  have hl1 := Lib.hid (hl.below hb0 (Nat.le_refl _))
  have HT := Lib.hid hts
  have HN := Lib.hid hn
  clear hl ha0 hts hn
  obtain ⟨V, hV⟩ : ∃ V, An.textsC ⟨code, (an : Int), count, to, words, bits, and_, or_⟩ l = V := ⟨_, rfl⟩
  have HF : Hid (V = if code = 43 then decide (0 < n) && decide ((an : Int) + n ≤ 256) && l.all (fun s => decide (s.size ≤ 245)) && decide (An.sumT 7 l ≤ 253) else decide (n = 0)) := Lib.hid (by rw [← hV, ← HN.out]; rfl)
  rw [hV, askV_eq]
  clear hV
  by_cases hc : code = 43
  · subst hc
    by_cases h0 : n = 0
    · subst h0
      have HV : Hid (V = false) := Lib.hid (by rw [HF.out]; simp)
      go_enter Tryz.func95, Tryz.ntmps95
      obtain ⟨r0, r1, -⟩ := row_eight hra
      go_wp2_with fail
      go_ret
      exact ⟨by rw [HV.out]; rfl, hb0⟩
    · have e0 : ((n : Int) == 0) = false := by rw [beq_eq_false_iff_ne]; omega
      by_cases h256 : (an : Int) + (n : Int) ≤ 256
      · have e1 : ¬ (an : Int) + (n : Int) > 256 := by omega
        have HV : Hid (V = (l.all (fun s => decide (s.size ≤ 245)) && decide (An.sumT 7 l ≤ 253))) := Lib.hid (by rw [HF.out, if_pos rfl, decide_eq_true (show 0 < n by omega), decide_eq_true h256]; rfl)
        clear HF
        go_enter Tryz.func95, Tryz.ntmps95
        obtain ⟨r0, r1, -⟩ := row_eight hra
        go_wp2_with fail
        go_loop [5, 27] (fun sv iv => ∃ j m : Nat, j ≤ n ∧ iv = .int .i64 j ∧ sv = .int .i64 m ∧ Hid (m = An.sumT 7 (l.take j)) ∧ Hid (∀ s ∈ l.take j, s.size ≤ 245) ∧ m ≤ 7 + 247 * j) (fun _ iv => n - (intOf iv).toNat)
        case atStart => exact ⟨0, 7, Nat.zero_le _, rfl, rfl, Lib.hid rfl, Lib.hid (by simp), by omega⟩
        case round =>
          obtain ⟨j, m, hj, rfl, rfl, HM, HA, hmb⟩ := hrel
          by_cases hlt : j < n
          · have i1 : (j : Int) < (n : Int) := by omega
            have hj1 : j < l.length := by rw [HN.out]; exact hlt
            obtain ⟨b1, o1, rfl, hc1⟩ := hl1.out j hj1
            have hsz := HT.out l[j] (List.getElem_mem hj1)
            have HD : Hid (An.sumT 7 (l.take (j + 1)) = m + (2 + (l[j]).size)) := Lib.hid (by rw [List.take_succ_eq_append_getElem hj1, An.sumT_snoc, ← HM.out])
            have HAL : Hid ((l[j]).size ≤ 245 → ∀ s ∈ l.take (j + 1), s.size ≤ 245) := Lib.hid (fun hle s hs => by
              rw [List.take_succ_eq_append_getElem hj1, List.mem_append, List.mem_singleton] at hs
              rcases hs with hs | rfl
              · exact HA.out s hs
              · exact hle)
            have HNO : Hid (¬ (l[j]).size ≤ 245 → V = false) := Lib.hid (fun hno => by
              rw [HV.out, Bool.and_eq_false_iff]
              left
              rw [← Bool.not_eq_true, List.all_eq_true]
              intro hall
              exact hno (by simpa using hall _ (List.getElem_mem hj1)))
            generalize l[j] = s at *
            by_cases h245 : s.size ≤ 245
            · have i2 : ¬ (s.size : Int) > 245 := by omega
              have HAL2 := Lib.hid (HAL.out h245)
              clear HNO HAL
              go_wp2_with fail
              go_round
              case rel => exact ⟨j + 1, m + (2 + s.size), by omega, by go_num, by go_num, Lib.hid HD.out.symm, HAL2, by omega⟩
              case measure => simp [intOf]; omega
            · have i2 : (s.size : Int) > 245 := by omega
              have HVV := Lib.hid (HNO.out h245)
              clear HNO HAL
              go_wp2_with fail
              go_ret
              exact ⟨by rw [HVV.out]; rfl, hb0⟩
          · obtain rfl : j = n := by omega
            have i1 : ¬ (j : Int) < (j : Int) := by omega
            have HTK : Hid (l.take j = l) := Lib.hid (by rw [← HN.out, List.take_length])
            rw [HTK.out] at HM HA
            have HVV : Hid (V = decide ((m : Int) ≤ 253)) := Lib.hid (by
              rw [HV.out, List.all_eq_true.2 (fun s hs => decide_eq_true (HA.out s hs)), Bool.true_and, ← HM.out]
              exact decide_eq_decide.2 (by omega))
            go_wp2_with fail
            go_ret
            exact ⟨by rw [HVV.out]; rfl, hb0⟩
      · have e1 : (an : Int) + (n : Int) > 256 := by omega
        have HV : Hid (V = false) := Lib.hid (by rw [HF.out, if_pos rfl, decide_eq_false h256]; simp)
        go_enter Tryz.func95, Tryz.ntmps95
        obtain ⟨r0, r1, -⟩ := row_eight hra
        go_wp2_with fail
        go_ret
        exact ⟨by rw [HV.out]; rfl, hb0⟩
  · have e0 : (code != 43) = true := by rw [bne_iff_ne]; exact hc
    have HV : Hid (V = ((n : Int) == 0)) := Lib.hid (by rw [HF.out, if_neg hc]; cases n <;> rfl)
    go_enter Tryz.func95, Tryz.ntmps95
    obtain ⟨r0, r1, -⟩ := row_eight hra
    go_wp2_with fail
    go_ret
    exact ⟨by rw [HV.out]; rfl, hb0⟩
end Go.Proofs.YtlgmjnjhdamknaaGreat

/-
  The landed answer: layTexts.
-/
namespace Go.Proofs.YtlgmjnjhdamknaaGreat
open Go.RowKit

set_option maxRecDepth 100000 in
set_option maxHeartbeats 1000000 in
theorem laytexts7_any (a : Ask) (h k : Option Addr × Nat × Nat) (A : Option Addr) (tn tc : Nat) (xt : List ByteArray) (an : Nat) (han : a.addr = (an : Int)) (hc0 : 0 ≤ a.count) (hc1 : a.count ≤ 255) (htn : xt.length = tn) (h0 : An.long xt ≤ 253) (hsz : ∀ s ∈ xt, s.size ≤ 245) (h256 : an + tn ≤ 256) (w : World) (hl : Lies strv w A xt) :
    Calls Tryz.prog 141 #[askV a h k, .slice A tn tc] w (LaidPost w (An.ahead a ++ (An.b1 tn :: An.laid an xt))) := by
  obtain ⟨code, addr, count, to, words, bits, and_, or_⟩ := a
  obtain rfl : addr = (an : Int) := han
  have hra := row_at w #[.int .i64 code, .int .i64 (an : Int), .int .i64 count, .int .i64 to, .slice h.1 h.2.1 h.2.2, .slice k.1 k.2.1 k.2.2, u16v and_, u16v or_] 40 w.heap.size rfl
  have hb0 : Below w.heap.size w (w.alloc (.cells #[.int .i64 code, .int .i64 (an : Int), .int .i64 count, .int .i64 to, .slice h.1 h.2.1 h.2.2, .slice k.1 k.2.1 k.2.2, u16v and_, u16v or_] 40)) := (Below.refl _ _).alloc (Nat.le_refl _) _
  have HAH := Lib.hid (fun w => ahead7_any ⟨code, (an : Int), count, to, words, bits, and_, or_⟩ h k hc0 hc1 w)
  rw [askV_eq] at HAH
  rw [askV_eq]
  have hl1 := hl.below hb0 (Nat.le_refl _)
  have HL : Hid (∀ k, (An.laid an (xt.take k)).length ≤ 253) := Lib.hid fun k => (by have h1 := An.laid_length xt an _ h0; have h2 := laid_append (xt.drop k) (xt.take k) an; rw [List.take_append_drop] at h2; unfold An.long at h0; omega)
  have ht127 : tn ≤ 127 := by
    have h1 := HL.out xt.length
    rw [List.take_length] at h1
    have h2 := laid_two xt an
    omega
  have e1 : (tn : Int) % 256 = (tn : Int) := by omega
  have hHN := Lib.hid htn
  have hSZ := Lib.hid hsz
  obtain ⟨P, hP⟩ : ∃ P, An.ahead ⟨code, (an : Int), count, to, words, bits, and_, or_⟩ = P := ⟨_, rfl⟩
  have hP5 : Hid (P.length = 5) := Lib.hid (by rw [← hP]; rfl)
  rw [hP] at HAH ⊢
  have HXL := Lib.hid hl
  clear hP hsz h0 htn hl hl1 hc0 hc1
  go_enter Tryz.func141, Tryz.ntmps141
  go_wp2_with fail
  refine (HAH.out _).mono ?_
  rintro e w1 ⟨A0, n0, c0, rfl, hn0, hown0, hb1⟩
  obtain rfl : n0 = 5 := hn0.symm.trans hP5.out
  have hbw1 := hb0.trans (hb1.mono hb0.size)
  have hra1 := row_later hra hb1
  have hlt1 : w.heap.size < w1.heap.size := row_lt hra1
  have HOA := Lib.hid (hown0.alloc (.cells #[.int .u8 (tn : Int)] 5))
  have HLA : Hid (Lies u8v (w1.alloc (.cells #[.int .u8 (tn : Int)] 5)) (some ⟨w1.heap.size, 0, none⟩) [An.b1 tn]) := Lib.hid (lies_at w1 _ _ _ _ (b1_row tn (by omega) [] [] rfl) rfl)
  have z1 : w.heap.size + 1 ≤ w1.heap.size := by have := hb1.size; simpa using this
  have HB0 : Hid (((w.alloc (.cells #[.int .i64 code, .int .i64 (an : Int), .int .i64 count, .int .i64 to, .slice h.1 h.2.1 h.2.2, .slice k.1 k.2.1 k.2.2, u16v and_, u16v or_] 40))).heap.size = w.heap.size + 1) := Lib.hid (by simp)
  rw [HB0.out] at HOA
  clear hn0 hown0
  go_wp2_with (at_builtin; go_must (refine wpList_append_lies kit8 one8 _ rfl (.tmp 9) (.tmp 13) rfl (w.heap.size + 1) _ 5 P rfl HOA.out (some ⟨w1.heap.size, 0, none⟩) 1 1 [An.b1 tn] rfl rfl HLA.out (by omega) (by unfold maxLen; omega) (by simp; omega) ?_; intro A2 c2 w2 hown2 hg2 hb2))
  have hb12 : Below (w.heap.size + 1) w1 w2 := ((Below.refl _ w1).alloc z1 _).trans hb2
  have z2 : w.heap.size + 1 ≤ w2.heap.size := Nat.le_trans z1 hb12.size
  have hbw2 : Below w.heap.size w w2 := hbw1.trans (hb12.mono (Nat.le_succ _))
  have hra2 : w2.heap[w.heap.size]? = some (.cells #[.int .i64 code, .int .i64 (an : Int), .int .i64 count, .int .i64 to, .slice h.1 h.2.1 h.2.2, .slice k.1 k.2.1 k.2.2, u16v and_, u16v or_] 40 (0, 0)) := (hb12.block _ (Nat.lt_succ_self _)).trans hra1
  have HHD : Hid ((An.ahead0 P tn).length = 6) := Lib.hid (by unfold An.ahead0; rw [List.length_append, hP5.out]; rfl)
  clear hb0 hra hra1 hb1 hg2 hb2 hbw1 hb12 HOA HLA HAH
  go_wp2_with fail
  go_loopw [5, 17] (fun out i wr => ∃ (j : Nat) (A : Option Addr) (n c : Nat), j ≤ tn ∧ i = .int .i64 j ∧ out = .slice A n c ∧ Hid (6 + (An.laid an (xt.take j)).length = n) ∧ wr.ownsRow (w.heap.size + 1) 5 1 (.slice A n c) n ((An.ahead0 P tn ++ An.laid an (xt.take j)).map u8v) ∧ Below (w.heap.size + 1) w2 wr) (fun _ i _ => tn - (intOf i).toNat)
  case atStart =>
    refine ⟨0, A2, 6, c2, Nat.zero_le _, rfl, rfl, Lib.hid (by simp [An.laid]), ?_, Below.refl _ _⟩
    simp only [List.take_zero, An.laid, List.append_nil, An.ahead0]
    exact hown2
  case round =>
    obtain ⟨j, A3, n3, c3, hj, rfl, rfl, HN, hown3, hbe⟩ := hrel
    have z3 := hbe.size
    have hbw3 : Below w.heap.size w wr := hbw2.trans (hbe.mono (Nat.le_succ _))
    have hra3 : wr.heap[w.heap.size]? = some (.cells #[.int .i64 code, .int .i64 (an : Int), .int .i64 count, .int .i64 to, .slice h.1 h.2.1 h.2.2, .slice k.1 k.2.1 k.2.2, u16v and_, u16v or_] 40 (0, 0)) := (hbe.block _ (Nat.lt_succ_self _)).trans hra2
    have hlt3 : w.heap.size < wr.heap.size := by omega
    by_cases hjt : j < tn
    · have hj1 : j < xt.length := by rw [hHN.out]; exact hjt
      obtain ⟨tb, to_, rfl, hc1⟩ := (HXL.out.below hbw3 (Nat.le_refl _)) j hj1
      have hc1 : wr.cell? ⟨tb, to_ + j, none⟩ = some (strv xt[j]) := hc1
      have hs1 := hSZ.out _ (List.getElem_mem hj1)
      have HS := Lib.hid (laid_step hj1 an)
      have HL1 := HL.out (j + 1)
      have HLJ := HL.out j
      generalize xt[j] = s at *
      have i1 : (j : Int) < (tn : Int) := by omega
      obtain ⟨-, r1, -⟩ := row_eight hra3
      have e4 : ((an : Int) + (j : Int)) % 256 = (an : Int) + (j : Int) := by omega
      have e5 : (an : Int) + (j : Int) ≤ 256 := by omega
      have HN3 : n3 ≤ 259 := by have := HN.out; omega
      have HO3 := Lib.hid (fun o => hown3.alloc o)
      have HLB : Hid (Lies u8v (wr.alloc (.cells #[.int .u8 ((an : Int) + (j : Int))] 5)) (some ⟨wr.heap.size, 0, none⟩) [An.b1 (an + j)]) := Lib.hid (lies_at wr _ _ _ _ (by have := b1_row (an + j) (by omega) [] [] rfl; rw [Int.natCast_add] at this; exact this) rfl)
      have HSL : Hid (s.data.toList.length = s.size) := Lib.hid (by rw [Array.length_toList]; rfl)
      have HEQ : Hid (((An.ahead0 P tn ++ An.laid an (xt.take j)) ++ [An.b1 (an + j)]) ++ (An.b1 s.size :: s.data.toList) = An.ahead0 P tn ++ An.laid an (xt.take (j + 1))) := Lib.hid (by rw [HS.out]; simp)
      have HNN : Hid (6 + (An.laid an (xt.take (j + 1))).length = n3 + 1 + (1 + s.size)) := Lib.hid (by rw [HS.out, List.length_append, List.length_cons, List.length_cons, HSL.out]; have := HN.out; omega)
      clear hown3 HL1 HLJ
      go_wp2_with (at_builtin; go_must (refine wpList_append_lies kit8 one8 _ rfl (.tmp 22) (.tmp 28) rfl (w.heap.size + 1) _ n3 _ rfl (HO3.out _) (some ⟨wr.heap.size, 0, none⟩) 1 1 [An.b1 (an + j)] rfl rfl HLB.out (by omega) (by unfold maxLen; omega) (by simp; omega) ?_; intro A4 c4 w4 hown4 hg4 hb4))
      have hb34 : Below (w.heap.size + 1) wr w4 := ((Below.refl _ wr).alloc (by omega) _).trans hb4
      have z4 : w.heap.size + 1 ≤ w4.heap.size := by have := hb34.size; omega
      refine upon_conv w4 9 41 5 s (by rfl) (by rfl) (by rfl) (by omega) ?_
      intro c5 w5 hc5 hm5 hl5 hb5 hz5
      have z5 : w.heap.size + 1 ≤ w5.heap.size := by omega
      have HC := Lib.hid (counted7_any (some ⟨w4.heap.size, 0, none⟩) s.size c5 s.data.toList HSL.out (by omega) w5 hl5)
      clear hl5 hz5
      go_wp2_with fail
      refine HC.out.mono ?_
      rintro e w6 ⟨A6, n6, c6, rfl, hn6, hown6, hb6⟩
      obtain rfl : n6 = 1 + s.size := by have h1 := HSL.out; rw [List.length_cons, h1] at hn6; omega
      have hbe6 : Below (w.heap.size + 1) w4 w6 := (hb5.mono z4).trans (hb6.mono z5)
      have hown4 := own_below (own_below hown4 hb5) hb6
      obtain ⟨-, -, -, hl6⟩ := own_at hown6
      have z6 : w.heap.size + 1 ≤ w6.heap.size := by have := hbe6.size; omega
      clear hown6 hn6
      go_wp2_with (at_builtin; go_must (refine wpList_append_lies kit8 one8 _ rfl (.tmp 30) (.tmp 33) rfl (w.heap.size + 1) _ (n3 + 1) _ rfl hown4 A6 (1 + s.size) c6 (An.b1 s.size :: s.data.toList) rfl (by rw [List.length_cons, HSL.out]; omega) hl6 (by omega) (by unfold maxLen; omega) z6 ?_; intro A7 c7 w7 hown7 hg7 hb7))
      go_roundw
      case rel => exact ⟨j + 1, A7, n3 + 1 + (1 + s.size), c7, by omega, by go_num, rfl, HNN, by rw [← HEQ.out]; exact hown7, ((hbe.trans hb34).trans hbe6).trans hb7⟩
      case measure => simp [intOf]; omega
    · obtain rfl : j = tn := by omega
      have HTK : Hid (xt.take j = xt) := Lib.hid (by rw [← hHN.out, List.take_length])
      rw [HTK.out] at hown3 HN
      have i1 : ¬ (j : Int) < (j : Int) := by omega
      have HR : Hid (LaidPost w (P ++ (An.b1 j :: An.laid an xt)) (.returned (.slice A3 n3 c3)) wr) := Lib.hid ⟨A3, n3, c3, rfl, by have := HN.out; rw [List.length_append, List.length_cons, hP5.out]; omega, by have h1 := own_lower hown3 (Nat.le_succ w.heap.size); unfold An.ahead0 at h1; rw [List.append_assoc] at h1; exact h1, hbw3⟩
      clear hown3 HN
      go_wp2_with fail
      go_ret
      exact HR.out
end Go.Proofs.YtlgmjnjhdamknaaGreat
