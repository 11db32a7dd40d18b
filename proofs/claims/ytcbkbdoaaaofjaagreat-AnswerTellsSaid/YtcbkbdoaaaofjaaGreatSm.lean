
/-
  The landed ask: Same.
-/
import Derived.Test.YtcbkbdoaaaofjaaGreatRask
import Derived.Laws.BitsAllLaws
import Derived.Deep.RegionLaw
import Derived.RangeFuncBox
import Derived.Laws.Cover3
namespace Go.Proofs.YtcbkbdoaaaofjaaGreat
open Go.RowKit

set_option maxRecDepth 100000 in
set_option maxHeartbeats 400000 in
theorem equal16_any (A1 A2 : Option Addr) (n m c d : Nat) (l k : List UInt16) (hn : l.length = n) (hm : k.length = m) (hmn : n ≤ maxLen) (w : World) (h1 : Lies u16v w A1 l) (h2 : Lies u16v w A2 k) :
    Calls Tryz.prog 29 #[.slice A1 n c, .slice A2 m d] w fun e w' => e = .returned (.bool (l == k)) ∧ ∃ q, w' = w.drewN q := by
  subst hn
  subst hm
  unfold maxLen at hmn
  by_cases hlen : l.length = k.length
  · have he : ((l.length : Int) != (k.length : Int)) = false := by rw [hlen]; simp
    have HLEN := Lib.hid hlen
    have hle : l.length ≤ k.length := by omega
    clear hlen
    go_enter Tryz.func29, Tryz.ntmps29
    go_wp2
    go_loopw [5, 13] (fun _ i wr => ∃ j : Nat, j ≤ l.length ∧ i = .int .i64 j ∧ l.take j = k.take j ∧ ∃ q, wr = w.drewN q) (fun _ i _ => l.length - (intOf i).toNat)
    case atStart => exact ⟨0, Nat.zero_le _, rfl, rfl, 0, rfl⟩
    case round =>
      obtain ⟨j, hj, rfl, ht, q, rfl⟩ := hrel
      have HT := Lib.hid ht
      clear ht
      by_cases hlt : j < l.length
      · obtain ⟨b1, o1, rfl, hc1⟩ := h1 j hlt
        have hlt2 : j < k.length := by omega
        obtain ⟨b2, o2, rfl, hc2⟩ := h2 j hlt2
        unfold u16v at hc1 hc2
        by_cases hx : l[j] = k[j]
        · have HS := Lib.hid (take_step l k j hlt hlt2 HT.out hx)
          rw [← hx] at hc2
          clear hx
          generalize l[j] = x at hc1 hc2
          go_wp2
          go_quiet (fail)
          go_wp2
          go_roundw
          case rel => exact ⟨j + 1, by omega, by go_num, HS.out, _, rfl⟩
          case measure => simp [intOf]; omega
        · have HS := Lib.hid (same_no l k j hlt hlt2 hx)
          have hne : (((l[j]).toNat : Int) != ((k[j]).toNat : Int)) = true := by
            rw [bne_iff_ne]
            intro e
            exact hx (UInt16.toNat_inj.1 (by exact_mod_cast e))
          clear hx
          generalize l[j] = x at hc1 hne
          generalize k[j] = y at hc2 hne
          go_wp2
          go_quiet (fail)
          go_wp2
          go_ret
          exact ⟨by rw [HS.out]; rfl, _, World.drewN_drewN _ _ _⟩
      · obtain rfl : j = l.length := by omega
        have HS := Lib.hid (same_yes l k HLEN.out HT.out)
        go_wp2
        go_ret
        exact ⟨by rw [HS.out]; rfl, _, rfl⟩
  · have he : ((l.length : Int) != (k.length : Int)) = true := by rw [bne_iff_ne]; omega
    have HS := Lib.hid (same_len l k hlen)
    clear hlen
    go_enter Tryz.func29, Tryz.ntmps29
    go_wp2
    go_ret
    exact ⟨by rw [HS.out]; rfl, 0, rfl⟩
set_option maxRecDepth 100000 in
set_option maxHeartbeats 400000 in
theorem equalb_any (A1 A2 : Option Addr) (n m c d : Nat) (l k : List Bool) (hn : l.length = n) (hm : k.length = m) (hmn : n ≤ maxLen) (w : World) (h1 : Lies bitv w A1 l) (h2 : Lies bitv w A2 k) :
    Calls Tryz.prog 28 #[.slice A1 n c, .slice A2 m d] w fun e w' => e = .returned (.bool (l == k)) ∧ ∃ q, w' = w.drewN q := by
  subst hn
  subst hm
  unfold maxLen at hmn
  by_cases hlen : l.length = k.length
  · have he : ((l.length : Int) != (k.length : Int)) = false := by rw [hlen]; simp
    have HLEN := Lib.hid hlen
    have hle : l.length ≤ k.length := by omega
    clear hlen
    go_enter Tryz.func28, Tryz.ntmps28
    go_wp2
    go_loopw [5, 13] (fun _ i wr => ∃ j : Nat, j ≤ l.length ∧ i = .int .i64 j ∧ l.take j = k.take j ∧ ∃ q, wr = w.drewN q) (fun _ i _ => l.length - (intOf i).toNat)
    case atStart => exact ⟨0, Nat.zero_le _, rfl, rfl, 0, rfl⟩
    case round =>
      obtain ⟨j, hj, rfl, ht, q, rfl⟩ := hrel
      have HT := Lib.hid ht
      clear ht
      by_cases hlt : j < l.length
      · obtain ⟨b1, o1, rfl, hc1⟩ := h1 j hlt
        have hlt2 : j < k.length := by omega
        obtain ⟨b2, o2, rfl, hc2⟩ := h2 j hlt2
        unfold bitv at hc1 hc2
        by_cases hx : l[j] = k[j]
        · have HS := Lib.hid (take_step l k j hlt hlt2 HT.out hx)
          rw [← hx] at hc2
          clear hx
          generalize l[j] = x at hc1 hc2
          go_wp2
          go_quiet (fail)
          go_wp2
          go_roundw
          case rel => exact ⟨j + 1, by omega, by go_num, HS.out, _, rfl⟩
          case measure => simp [intOf]; omega
        · have HS := Lib.hid (same_no l k j hlt hlt2 hx)
          have hne : (!(l[j] == k[j])) = true := by
            simpa using hx
          clear hx
          generalize l[j] = x at hc1 hne
          generalize k[j] = y at hc2 hne
          go_wp2
          go_quiet (fail)
          go_wp2
          go_ret
          exact ⟨by rw [HS.out]; rfl, _, World.drewN_drewN _ _ _⟩
      · obtain rfl : j = l.length := by omega
        have HS := Lib.hid (same_yes l k HLEN.out HT.out)
        go_wp2
        go_ret
        exact ⟨by rw [HS.out]; rfl, _, rfl⟩
  · have he : ((l.length : Int) != (k.length : Int)) = true := by rw [bne_iff_ne]; omega
    have HS := Lib.hid (same_len l k hlen)
    clear hlen
    go_enter Tryz.func28, Tryz.ntmps28
    go_wp2
    go_ret
    exact ⟨by rw [HS.out]; rfl, 0, rfl⟩
set_option maxRecDepth 100000 in
set_option maxHeartbeats 4000000 in
theorem same6_any (a b : Ask) (h k h' k' : Option Addr × Nat × Nat) (w : World) (ha : AskIn w a h k) (hb : AskIn w b h' k') :
    Calls Tryz.prog 70 #[askV a h k, askV b h' k'] w fun e w' => e = .returned (.bool (Ak.same a b)) ∧ Below w.heap.size w w' := by
  obtain ⟨code, addr, count, to, words, bits, and_, or_⟩ := a
  obtain ⟨code', addr', count', to', words', bits', and', or'⟩ := b
  obtain ⟨hA, hn, hc⟩ := h
  obtain ⟨kA, kn, kc⟩ := k
  obtain ⟨hA', hn', hc'⟩ := h'
  obtain ⟨kA', kn', kc'⟩ := k'
  obtain ⟨V, hV⟩ : ∃ V, Ak.same ⟨code, addr, count, to, words, bits, and_, or_⟩ ⟨code', addr', count', to', words', bits', and', or'⟩ = V := ⟨_, rfl⟩
  have HF : Hid (V = (code == code' && addr == addr' && count == count' && to == to' && and_ == and' && or_ == or' && words == words' && bits == bits')) := Lib.hid (by rw [← hV]; rfl)
  rw [hV]
  have n1 := u16_eq and_ and'
  have n2 := u16_eq or_ or'
  have m1 : hn ≤ maxLen := Nat.le_trans ha.hc ha.hm
  have m2 : kn ≤ maxLen := Nat.le_trans ha.kc ha.km
  have e1 : words.length = hn := ha.hn
  have e2 : bits.length = kn := ha.kn
  have e3 : words'.length = hn' := hb.hn
  have e4 : bits'.length = kn' := hb.kn
  have l1 : Lies u16v w hA words := ha.hl
  have l2 : Lies bitv w kA bits := ha.kl
  have l3 : Lies u16v w hA' words' := hb.hl
  have l4 : Lies bitv w kA' bits' := hb.kl
  have E := Lib.hid (And.intro e1 (And.intro e2 (And.intro e3 e4)))
  clear hV ha hb e1 e2 e3 e4
  unfold askV
  cases hw : (words == words') with
  | false =>
    rw [hw] at HF
    go_enter Tryz.func70, Tryz.ntmps70
    go_wp2_with (first | (go_at_call 29; (refine (equal16_any hA hA' hn hn' hc hc' words words' E.out.1 E.out.2.2.1 m1 _ ((l1.alloc _).alloc _) ((l3.alloc _).alloc _)).mono ?_); rintro e w2 ⟨rfl, q, rfl⟩; rw [hw]) | fail)
    all_goals go_ret
    all_goals refine ⟨?_, by first | exact (((Below.refl _ w).alloc (Nat.le_refl _) _).alloc (by simp) _) | exact drewN_below (((Below.refl _ w).alloc (Nat.le_refl _) _).alloc (by simp) _) _⟩
    all_goals rw [HF.out]
    all_goals congr 2
    all_goals simp_all
  | true =>
    rw [hw] at HF
    cases hbt : (bits == bits') with
    | false =>
      rw [hbt] at HF
      go_enter Tryz.func70, Tryz.ntmps70
      go_wp2_with (first | (go_at_call 29; (refine (equal16_any hA hA' hn hn' hc hc' words words' E.out.1 E.out.2.2.1 m1 _ ((l1.alloc _).alloc _) ((l3.alloc _).alloc _)).mono ?_); rintro e w2 ⟨rfl, q, rfl⟩; rw [hw]) | (go_at_call 28; (refine (equalb_any kA kA' kn kn' kc kc' bits bits' E.out.2.1 E.out.2.2.2 m2 _ (((l2.alloc _).alloc _).drewN q) (((l4.alloc _).alloc _).drewN q)).mono ?_); rintro e w3 ⟨rfl, q2, rfl⟩; rw [hbt]) | fail)
      all_goals go_ret
      all_goals refine ⟨?_, by first | exact (((Below.refl _ w).alloc (Nat.le_refl _) _).alloc (by simp) _) | exact drewN_below (((Below.refl _ w).alloc (Nat.le_refl _) _).alloc (by simp) _) _⟩
      all_goals rw [HF.out]
      all_goals congr 2
      all_goals simp_all
    | true =>
      rw [hbt] at HF
      go_enter Tryz.func70, Tryz.ntmps70
      go_wp2_with (first | (go_at_call 29; (refine (equal16_any hA hA' hn hn' hc hc' words words' E.out.1 E.out.2.2.1 m1 _ ((l1.alloc _).alloc _) ((l3.alloc _).alloc _)).mono ?_); rintro e w2 ⟨rfl, q, rfl⟩; rw [hw]) | (go_at_call 28; (refine (equalb_any kA kA' kn kn' kc kc' bits bits' E.out.2.1 E.out.2.2.2 m2 _ (((l2.alloc _).alloc _).drewN q) (((l4.alloc _).alloc _).drewN q)).mono ?_); rintro e w3 ⟨rfl, q2, rfl⟩; rw [hbt]) | fail)
      all_goals go_ret
      all_goals refine ⟨?_, by first | exact (((Below.refl _ w).alloc (Nat.le_refl _) _).alloc (by simp) _) | exact drewN_below (((Below.refl _ w).alloc (Nat.le_refl _) _).alloc (by simp) _) _⟩
      all_goals rw [HF.out]
      all_goals congr 2
      all_goals simp_all
end Go.Proofs.YtcbkbdoaaaofjaaGreat
