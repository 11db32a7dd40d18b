
/- A part of the proof of the law MasterDoes. -/
import Derived.Test.YtlgmjnjhdamknaaGreatMem
import Derived.Laws.BitsAllLaws
import Derived.Deep.RegionLaw
import Derived.RangeFuncBox
import Derived.Laws.Cover3
import Derived.Test.YtlgmjnjhdamknaaGreatRtext
import Derived.Deep.QuietTactic
import Derived.BigQuiet
namespace Go.Proofs.YtlgmjnjhdamknaaGreat
open Go.RowKit

set_option maxRecDepth 100000 in
set_option maxHeartbeats 400000 in
theorem rsame16_any (A1 A2 : Option Addr) (n m c d : Nat) (l k : List UInt16) (hn : l.length = n) (hm : k.length = m) (hmn : n ≤ maxLen) (w : World) (h1 : Lies u16v w A1 l) (h2 : Lies u16v w A2 k) :
    Calls Tryz.prog 36 #[.slice A1 n c, .slice A2 m d] w fun e w' => e = .returned (.bool (l == k)) ∧ ∃ q, w' = w.drewN q := by
  subst hn
  subst hm
  unfold maxLen at hmn
  by_cases hlen : l.length = k.length
  · have he : ((l.length : Int) != (k.length : Int)) = false := by rw [hlen]; simp
    have HLEN := qh hlen
    have hle : l.length ≤ k.length := by omega
    clear hlen
    go_enter Tryz.func36, Tryz.ntmps36
    go_wp2
    go_loopw [5] (fun i wr => ∃ j : Nat, j ≤ l.length ∧ i = .int .i64 j ∧ l.take j = k.take j ∧ ∃ q, wr = w.drewN q) (fun i _ => l.length - (intOf i).toNat)
    case atStart => exact ⟨0, Nat.zero_le _, rfl, rfl, 0, rfl⟩
    case round =>
      obtain ⟨j, hj, rfl, ht, q, rfl⟩ := hrel
      have HT := qh ht
      clear ht
      by_cases hlt : j < l.length
      · obtain ⟨b1, o1, rfl, hc1⟩ := h1 j hlt
        have hlt2 : j < k.length := by omega
        obtain ⟨b2, o2, rfl, hc2⟩ := h2 j hlt2
        unfold u16v at hc1 hc2
        by_cases hx : l[j] = k[j]
        · have HS := qh (take_step l k j hlt hlt2 HT.out hx)
          rw [← hx] at hc2
          clear hx
          generalize l[j] = x at hc1 hc2
          go_wp2
          go_quiet (fail)
          go_wp2
          go_roundw
          case rel => exact ⟨j + 1, by omega, by go_num, HS.out, _, rfl⟩
          case measure => simp [intOf]; omega
        · have HS := qh (same_no l k j hlt hlt2 hx)
          have hne : (((l[j]).toNat : Int) != ((k[j]).toNat : Int)) = true := by
            rw [bne_iff_ne]
            intro e
            exact hx (UInt16.toNat_inj.1 (by exact_mod_cast e))
          clear hx
          generalize l[j] = x at hc1 hne
          generalize k[j] = y at hc2 hne
          go_wp2
          go_quiet (fail)
          go_wp2
          go_ret
          exact ⟨by rw [HS.out]; rfl, _, World.drewN_drewN _ _ _⟩
      · obtain rfl : j = l.length := by omega
        have HS := qh (same_yes l k HLEN.out HT.out)
        go_wp2
        go_ret
        exact ⟨by rw [HS.out]; rfl, _, rfl⟩
  · have he : ((l.length : Int) != (k.length : Int)) = true := by rw [bne_iff_ne]; omega
    have HS := qh (same_len l k hlen)
    clear hlen
    go_enter Tryz.func36, Tryz.ntmps36
    go_wp2
    go_ret
    exact ⟨by rw [HS.out]; rfl, 0, rfl⟩
set_option maxRecDepth 100000 in
set_option maxHeartbeats 400000 in
theorem rsameb_any (A1 A2 : Option Addr) (n m c d : Nat) (l k : List Bool) (hn : l.length = n) (hm : k.length = m) (hmn : n ≤ maxLen) (w : World) (h1 : Lies bitv w A1 l) (h2 : Lies bitv w A2 k) :
    Calls Tryz.prog 35 #[.slice A1 n c, .slice A2 m d] w fun e w' => e = .returned (.bool (l == k)) ∧ ∃ q, w' = w.drewN q := by
  subst hn
  subst hm
  unfold maxLen at hmn
  by_cases hlen : l.length = k.length
  · have he : ((l.length : Int) != (k.length : Int)) = false := by rw [hlen]; simp
    have HLEN := qh hlen
    have hle : l.length ≤ k.length := by omega
    clear hlen
    go_enter Tryz.func35, Tryz.ntmps35
    go_wp2
    go_loopw [5] (fun i wr => ∃ j : Nat, j ≤ l.length ∧ i = .int .i64 j ∧ l.take j = k.take j ∧ ∃ q, wr = w.drewN q) (fun i _ => l.length - (intOf i).toNat)
    case atStart => exact ⟨0, Nat.zero_le _, rfl, rfl, 0, rfl⟩
    case round =>
      obtain ⟨j, hj, rfl, ht, q, rfl⟩ := hrel
      have HT := qh ht
      clear ht
      by_cases hlt : j < l.length
      · obtain ⟨b1, o1, rfl, hc1⟩ := h1 j hlt
        have hlt2 : j < k.length := by omega
        obtain ⟨b2, o2, rfl, hc2⟩ := h2 j hlt2
        unfold bitv at hc1 hc2
        by_cases hx : l[j] = k[j]
        · have HS := qh (take_step l k j hlt hlt2 HT.out hx)
          rw [← hx] at hc2
          clear hx
          generalize l[j] = x at hc1 hc2
          go_wp2
          go_quiet (fail)
          go_wp2
          go_roundw
          case rel => exact ⟨j + 1, by omega, by go_num, HS.out, _, rfl⟩
          case measure => simp [intOf]; omega
        · have HS := qh (same_no l k j hlt hlt2 hx)
          have hne : (!(l[j] == k[j])) = true := by
            simpa using hx
          clear hx
          generalize l[j] = x at hc1 hne
          generalize k[j] = y at hc2 hne
          go_wp2
          go_quiet (fail)
          go_wp2
          go_ret
          exact ⟨by rw [HS.out]; rfl, _, World.drewN_drewN _ _ _⟩
      · obtain rfl : j = l.length := by omega
        have HS := qh (same_yes l k HLEN.out HT.out)
        go_wp2
        go_ret
        exact ⟨by rw [HS.out]; rfl, _, rfl⟩
  · have he : ((l.length : Int) != (k.length : Int)) = true := by rw [bne_iff_ne]; omega
    have HS := qh (same_len l k hlen)
    clear hlen
    go_enter Tryz.func35, Tryz.ntmps35
    go_wp2
    go_ret
    exact ⟨by rw [HS.out]; rfl, 0, rfl⟩
end Go.Proofs.YtlgmjnjhdamknaaGreat

namespace Go.Proofs.YtlgmjnjhdamknaaGreat
open Go.RowKit

namespace Ak
def bytes (a : Ask) : List UInt8 := if right a then text a else []
def codeA (a : Ask) : Nat := if right a then 0 else 2
def same (a b : Ask) : Bool := a.code == b.code && a.addr == b.addr && a.count == b.count && a.to == b.to && a.and_ == b.and_ && a.or_ == b.or_ && a.words == b.words && a.bits == b.bits
end Ak

def AskBytesPost (w : World) (a : Ask) (e : Ending) (w' : World) : Prop :=
  ∃ A n c, e = .returned (.tuple #[.slice A n c, .int .i64 ((Ak.codeA a : Nat) : Int)]) ∧ (Ak.bytes a).length = n ∧ w'.ownsRow w.heap.size 5 1 (.slice A n c) n ((Ak.bytes a).map u8v) ∧ Below w.heap.size w w'

set_option maxRecDepth 100000 in
set_option maxHeartbeats 4000000 in
theorem rbytes6_any (a : Ask) (h k : Option Addr × Nat × Nat) (w : World) (ha : AskIn w a h k) :
    Calls Tryz.prog 30 #[askV a h k] w (AskBytesPost w a) := by
  have hb0 : Below w.heap.size w (w.alloc (.cells #[.int .i64 a.code, .int .i64 a.addr, .int .i64 a.count, .int .i64 a.to, .slice h.1 h.2.1 h.2.2, .slice k.1 k.2.1 k.2.2, u16v a.and_, u16v a.or_] 58)) := (Below.refl _ _).alloc (zq _) _
  have hrow := row_at w #[.int .i64 a.code, .int .i64 a.addr, .int .i64 a.count, .int .i64 a.to, .slice h.1 h.2.1 h.2.2, .slice k.1 k.2.1 k.2.2, u16v a.and_, u16v a.or_] 58 w.heap.size rfl
  have ha1 := ha.below hb0
  have hA : askV a h k = .agg #[.int .i64 a.code, .int .i64 a.addr, .int .i64 a.count, .int .i64 a.to, .slice h.1 h.2.1 h.2.2, .slice k.1 k.2.1 k.2.2, u16v a.and_, u16v a.or_] := rfl
  rw [hA]
  go_enter Tryz.func30, Tryz.ntmps30
  go_wp2_with fail
  refine (rright_any a h k _ ha1).mono ?_
  rintro e w2 ⟨rfl, hb2⟩
  have hbw := hb0.trans (hb2.mono hb0.size)
  have ha2 := ha1.below hb2
  obtain ⟨r0, r1, r2, r3, r4, r5, r6, r7⟩ := row_eight (row_later hrow hb2)
  have hz := hbw.size
  cases hf : Ak.right a with
  | false =>
    have HC : Hid (Ak.codeA a = 2) := qh (by unfold Ak.codeA; rw [hf]; rfl)
    have HB : Hid (Ak.bytes a = []) := qh (by unfold Ak.bytes; rw [hf]; rfl)
    go_wp2_with fail
    go_ret2
    exact ⟨none, 0, 0, by rw [HC.out]; rfl, by rw [HB.out]; rfl, by rw [HB.out]; exact World.ownsRow_nil _ _ _ _, hbw⟩
  | true =>
    have HC : Hid (Ak.codeA a = 0) := qh (by unfold Ak.codeA; rw [hf]; rfl)
    have HB : Hid (Ak.bytes a = Ak.text a) := qh (by unfold Ak.bytes; rw [hf]; rfl)
    have hff : Ak.formed a = true := by
      unfold Ak.right at hf
      rw [Bool.and_eq_true] at hf
      exact hf.1
    have HFF := qh hff
    clear hf hff
    go_wp2_with fail
    refine (rtext_any a h k _ ha2 HFF.out).mono ?_
    rintro e w3 ⟨A, n, c, rfl, hn, hown, hb3⟩
    go_wp2_with fail
    go_ret2
    exact ⟨A, n, c, by rw [HC.out]; rfl, by rw [HB.out]; exact hn, by rw [HB.out]; exact own_lower hown hz, hbw.trans (hb3.mono hz)⟩

end Go.Proofs.YtlgmjnjhdamknaaGreat

namespace Go.Proofs.YtlgmjnjhdamknaaGreat
open Go.RowKit

theorem u16_eq (x y : UInt16) : ((x.toNat : Int) == (y.toNat : Int)) = (x == y) := by
  by_cases h : x = y
  · subst h; simp
  · rw [beq_eq_false_iff_ne.2 h, beq_eq_false_iff_ne]
    intro e
    exact h (UInt16.toNat_inj.1 (by exact_mod_cast e))

end Go.Proofs.YtlgmjnjhdamknaaGreat

namespace Go.Proofs.YtlgmjnjhdamknaaGreat
open Go.RowKit

set_option maxRecDepth 100000 in
set_option maxHeartbeats 400000 in
theorem equal16_any (A1 A2 : Option Addr) (n m c d : Nat) (l k : List UInt16) (hn : l.length = n) (hm : k.length = m) (hmn : n ≤ maxLen) (w : World) (h1 : Lies u16v w A1 l) (h2 : Lies u16v w A2 k) :
    Calls Tryz.prog 52 #[.slice A1 n c, .slice A2 m d] w fun e w' => e = .returned (.bool (l == k)) ∧ ∃ q, w' = w.drewN q := by
  subst hn
  subst hm
  unfold maxLen at hmn
  by_cases hlen : l.length = k.length
  · have he : ((l.length : Int) != (k.length : Int)) = false := by rw [hlen]; simp
    have HLEN := qh hlen
    have hle : l.length ≤ k.length := by omega
    clear hlen
    go_enter Tryz.func52, Tryz.ntmps52
    go_wp2
    go_loopw [5, 13] (fun _ i wr => ∃ j : Nat, j ≤ l.length ∧ i = .int .i64 j ∧ l.take j = k.take j ∧ ∃ q, wr = w.drewN q) (fun _ i _ => l.length - (intOf i).toNat)
    case atStart => exact ⟨0, Nat.zero_le _, rfl, rfl, 0, rfl⟩
    case round =>
      obtain ⟨j, hj, rfl, ht, q, rfl⟩ := hrel
      have HT := qh ht
      clear ht
      by_cases hlt : j < l.length
      · obtain ⟨b1, o1, rfl, hc1⟩ := h1 j hlt
        have hlt2 : j < k.length := by omega
        obtain ⟨b2, o2, rfl, hc2⟩ := h2 j hlt2
        unfold u16v at hc1 hc2
        by_cases hx : l[j] = k[j]
        · have HS := qh (take_step l k j hlt hlt2 HT.out hx)
          rw [← hx] at hc2
          clear hx
          generalize l[j] = x at hc1 hc2
          go_wp2
          go_quiet (fail)
          go_wp2
          go_roundw
          case rel => exact ⟨j + 1, by omega, by go_num, HS.out, _, rfl⟩
          case measure => simp [intOf]; omega
        · have HS := qh (same_no l k j hlt hlt2 hx)
          have hne : (((l[j]).toNat : Int) != ((k[j]).toNat : Int)) = true := by
            rw [bne_iff_ne]
            intro e
            exact hx (UInt16.toNat_inj.1 (by exact_mod_cast e))
          clear hx
          generalize l[j] = x at hc1 hne
          generalize k[j] = y at hc2 hne
          go_wp2
          go_quiet (fail)
          go_wp2
          go_ret
          exact ⟨by rw [HS.out]; rfl, _, World.drewN_drewN _ _ _⟩
      · obtain rfl : j = l.length := by omega
        have HS := qh (same_yes l k HLEN.out HT.out)
        go_wp2
        go_ret
        exact ⟨by rw [HS.out]; rfl, _, rfl⟩
  · have he : ((l.length : Int) != (k.length : Int)) = true := by rw [bne_iff_ne]; omega
    have HS := qh (same_len l k hlen)
    clear hlen
    go_enter Tryz.func52, Tryz.ntmps52
    go_wp2
    go_ret
    exact ⟨by rw [HS.out]; rfl, 0, rfl⟩
set_option maxRecDepth 100000 in
set_option maxHeartbeats 400000 in
theorem equalb_any (A1 A2 : Option Addr) (n m c d : Nat) (l k : List Bool) (hn : l.length = n) (hm : k.length = m) (hmn : n ≤ maxLen) (w : World) (h1 : Lies bitv w A1 l) (h2 : Lies bitv w A2 k) :
    Calls Tryz.prog 51 #[.slice A1 n c, .slice A2 m d] w fun e w' => e = .returned (.bool (l == k)) ∧ ∃ q, w' = w.drewN q := by
  subst hn
  subst hm
  unfold maxLen at hmn
  by_cases hlen : l.length = k.length
  · have he : ((l.length : Int) != (k.length : Int)) = false := by rw [hlen]; simp
    have HLEN := qh hlen
    have hle : l.length ≤ k.length := by omega
    clear hlen
    go_enter Tryz.func51, Tryz.ntmps51
    go_wp2
    go_loopw [5, 13] (fun _ i wr => ∃ j : Nat, j ≤ l.length ∧ i = .int .i64 j ∧ l.take j = k.take j ∧ ∃ q, wr = w.drewN q) (fun _ i _ => l.length - (intOf i).toNat)
    case atStart => exact ⟨0, Nat.zero_le _, rfl, rfl, 0, rfl⟩
    case round =>
      obtain ⟨j, hj, rfl, ht, q, rfl⟩ := hrel
      have HT := qh ht
      clear ht
      by_cases hlt : j < l.length
      · obtain ⟨b1, o1, rfl, hc1⟩ := h1 j hlt
        have hlt2 : j < k.length := by omega
        obtain ⟨b2, o2, rfl, hc2⟩ := h2 j hlt2
        unfold bitv at hc1 hc2
        by_cases hx : l[j] = k[j]
        · have HS := qh (take_step l k j hlt hlt2 HT.out hx)
          rw [← hx] at hc2
          clear hx
          generalize l[j] = x at hc1 hc2
          go_wp2
          go_quiet (fail)
          go_wp2
          go_roundw
          case rel => exact ⟨j + 1, by omega, by go_num, HS.out, _, rfl⟩
          case measure => simp [intOf]; omega
        · have HS := qh (same_no l k j hlt hlt2 hx)
          have hne : (!(l[j] == k[j])) = true := by
            simpa using hx
          clear hx
          generalize l[j] = x at hc1 hne
          generalize k[j] = y at hc2 hne
          go_wp2
          go_quiet (fail)
          go_wp2
          go_ret
          exact ⟨by rw [HS.out]; rfl, _, World.drewN_drewN _ _ _⟩
      · obtain rfl : j = l.length := by omega
        have HS := qh (same_yes l k HLEN.out HT.out)
        go_wp2
        go_ret
        exact ⟨by rw [HS.out]; rfl, _, rfl⟩
  · have he : ((l.length : Int) != (k.length : Int)) = true := by rw [bne_iff_ne]; omega
    have HS := qh (same_len l k hlen)
    clear hlen
    go_enter Tryz.func51, Tryz.ntmps51
    go_wp2
    go_ret
    exact ⟨by rw [HS.out]; rfl, 0, rfl⟩
set_option maxRecDepth 100000 in
set_option maxHeartbeats 4000000 in
theorem same6_any (a b : Ask) (h k h' k' : Option Addr × Nat × Nat) (w : World) (ha : AskIn w a h k) (hb : AskIn w b h' k') :
    Calls Tryz.prog 106 #[askV a h k, askV b h' k'] w fun e w' => e = .returned (.bool (Ak.same a b)) ∧ Below w.heap.size w w' := by
  obtain ⟨code, addr, count, to, words, bits, and_, or_⟩ := a
  obtain ⟨code', addr', count', to', words', bits', and', or'⟩ := b
  obtain ⟨hA, hn, hc⟩ := h
  obtain ⟨kA, kn, kc⟩ := k
  obtain ⟨hA', hn', hc'⟩ := h'
  obtain ⟨kA', kn', kc'⟩ := k'
  obtain ⟨V, hV⟩ : ∃ V, Ak.same ⟨code, addr, count, to, words, bits, and_, or_⟩ ⟨code', addr', count', to', words', bits', and', or'⟩ = V := ⟨_, rfl⟩
  have HF : Hid (V = (code == code' && addr == addr' && count == count' && to == to' && and_ == and' && or_ == or' && words == words' && bits == bits')) := qh (by rw [← hV]; rfl)
  rw [hV]
  have n1 := u16_eq and_ and'
  have n2 := u16_eq or_ or'
  have m1 : hn ≤ maxLen := Nat.le_trans ha.hc ha.hm
  have m2 : kn ≤ maxLen := Nat.le_trans ha.kc ha.km
  have e1 : words.length = hn := ha.hn
  have e2 : bits.length = kn := ha.kn
  have e3 : words'.length = hn' := hb.hn
  have e4 : bits'.length = kn' := hb.kn
  have l1 : Lies u16v w hA words := ha.hl
  have l2 : Lies bitv w kA bits := ha.kl
  have l3 : Lies u16v w hA' words' := hb.hl
  have l4 : Lies bitv w kA' bits' := hb.kl
  have E := qh (And.intro e1 (And.intro e2 (And.intro e3 e4)))
  clear hV ha hb e1 e2 e3 e4
  unfold askV
  cases hw : (words == words') with
  | false =>
    rw [hw] at HF
    go_enter Tryz.func106, Tryz.ntmps106
    go_wp2_with (first | (go_at_call 52; (refine (equal16_any hA hA' hn hn' hc hc' words words' E.out.1 E.out.2.2.1 m1 _ ((l1.alloc _).alloc _) ((l3.alloc _).alloc _)).mono ?_); rintro e w2 ⟨rfl, q, rfl⟩; rw [hw]) | fail)
    all_goals go_ret
    all_goals refine ⟨?_, by first | exact (((Below.refl _ w).alloc (zq _) _).alloc (by simp) _) | exact drewN_below (((Below.refl _ w).alloc (zq _) _).alloc (by simp) _) _⟩
    all_goals rw [HF.out]
    all_goals congr 2
    all_goals simp_all
  | true =>
    rw [hw] at HF
    cases hbt : (bits == bits') with
    | false =>
      rw [hbt] at HF
      go_enter Tryz.func106, Tryz.ntmps106
      go_wp2_with (first | (go_at_call 52; (refine (equal16_any hA hA' hn hn' hc hc' words words' E.out.1 E.out.2.2.1 m1 _ ((l1.alloc _).alloc _) ((l3.alloc _).alloc _)).mono ?_); rintro e w2 ⟨rfl, q, rfl⟩; rw [hw]) | (go_at_call 51; (refine (equalb_any kA kA' kn kn' kc kc' bits bits' E.out.2.1 E.out.2.2.2 m2 _ (((l2.alloc _).alloc _).drewN q) (((l4.alloc _).alloc _).drewN q)).mono ?_); rintro e w3 ⟨rfl, q2, rfl⟩; rw [hbt]) | fail)
      all_goals go_ret
      all_goals refine ⟨?_, by first | exact (((Below.refl _ w).alloc (zq _) _).alloc (by simp) _) | exact drewN_below (((Below.refl _ w).alloc (zq _) _).alloc (by simp) _) _⟩
      all_goals rw [HF.out]
      all_goals congr 2
      all_goals simp_all
    | true =>
      rw [hbt] at HF
      go_enter Tryz.func106, Tryz.ntmps106
      go_wp2_with (first | (go_at_call 52; (refine (equal16_any hA hA' hn hn' hc hc' words words' E.out.1 E.out.2.2.1 m1 _ ((l1.alloc _).alloc _) ((l3.alloc _).alloc _)).mono ?_); rintro e w2 ⟨rfl, q, rfl⟩; rw [hw]) | (go_at_call 51; (refine (equalb_any kA kA' kn kn' kc kc' bits bits' E.out.2.1 E.out.2.2.2 m2 _ (((l2.alloc _).alloc _).drewN q) (((l4.alloc _).alloc _).drewN q)).mono ?_); rintro e w3 ⟨rfl, q2, rfl⟩; rw [hbt]) | fail)
      all_goals go_ret
      all_goals refine ⟨?_, by first | exact (((Below.refl _ w).alloc (zq _) _).alloc (by simp) _) | exact drewN_below (((Below.refl _ w).alloc (zq _) _).alloc (by simp) _) _⟩
      all_goals rw [HF.out]
      all_goals congr 2
      all_goals simp_all
end Go.Proofs.YtlgmjnjhdamknaaGreat

namespace Go.Proofs.YtlgmjnjhdamknaaGreat
open Go.ChangeShapes Go.WideShapes Go.ChangeAt Go.RowKit

section
variable {P : Program} {H : Type} {enc : TypeId × Value → H} {w : World} {b : Nat} {sp : Nat → Bool} {hd : Bool} {t e ew eb : TypeId}
theorem agg_of {r : Reach} {b0 : Nat} {v : Value} {fs : Array Field} (hu : P.underlying t = some (.struct fs)) (hval : Value.okWide P w r b0 t v) : ∃ cs : Array Value, v = .agg cs := by
  simp only [Value.okWide, hu] at hval
  obtain ⟨cs, rfl, _⟩ := hval
  exact ⟨cs, rfl⟩
end
end Go.Proofs.YtlgmjnjhdamknaaGreat

namespace Go.Proofs.YtlgmjnjhdamknaaGreat
open Go.RowKit

namespace Ak
end Ak

def askCells (a : Ask) (h k : Option Addr × Nat × Nat) : Array Value := #[.int .i64 a.code, .int .i64 a.addr, .int .i64 a.count, .int .i64 a.to, .slice h.1 h.2.1 h.2.2, .slice k.1 k.2.1 k.2.2, u16v a.and_, u16v a.or_]
theorem row_set {w : World} {g i : Nat} {cs : Array Value} {t : TypeId} {fr : Nat × Nat} (h : w.heap[g]? = some (.cells cs t fr)) (v : Value) : (w.setCell ⟨g, i, none⟩ v).heap[g]? = some (.cells (cs.setIfInBounds i v) t fr) := by
  simp [World.setCell, Array.getElem?_modify, h]
theorem row_set_far {w : World} {g k i : Nat} {o : Obj} (h : w.heap[g]? = some o) (hne : k ≠ g) (v : Value) : (w.setCell ⟨k, i, none⟩ v).heap[g]? = some o := by
  simp only [World.setCell]
  rw [Array.getElem?_modify, if_neg hne]
  exact h
theorem row_eight_free {w : World} {g : Nat} {c0 c1 c2 c3 c4 c5 c6 c7 : Value} {t : TypeId} (h : w.heap[g]? = some (.cells #[c0, c1, c2, c3, c4, c5, c6, c7] t (0, 0))) :
    w.frozen? ⟨g, 0, none⟩ = false ∧ w.frozen? ⟨g, 1, none⟩ = false ∧ w.frozen? ⟨g, 2, none⟩ = false ∧ w.frozen? ⟨g, 3, none⟩ = false ∧ w.frozen? ⟨g, 4, none⟩ = false ∧ w.frozen? ⟨g, 5, none⟩ = false ∧ w.frozen? ⟨g, 6, none⟩ = false ∧ w.frozen? ⟨g, 7, none⟩ = false := by
  simp [World.frozen?, h]
end Go.Proofs.YtlgmjnjhdamknaaGreat

namespace Go.Proofs.YtlgmjnjhdamknaaGreat
open Go.RowKit

namespace Ak
theorem b1_back (n : Nat) (h : n < 256) : (b1 n).toNat = n := by unfold b1; rw [UInt8.toNat_ofNat']; omega
theorem formed_parts {a : Ask} (h : formed a = true) : a.code ∈ codes ∧ fits a.count (most a.code).1 = true ∧ fits a.words.length (most a.code).2.1 = true ∧ fits a.bits.length (most a.code).2.2 = true ∧ (a.code ≠ 22 → a.and_ = 0 ∧ a.or_ = 0) ∧ (a.code ≠ 23 → a.to = 0) ∧ 0 ≤ a.addr ∧ a.addr ≤ 65535 ∧ 0 ≤ a.to ∧ a.to ≤ 65535 ∧ (a.code = 43 → a.addr ≤ 255) := by
  unfold formed at h
  simp only [Bool.and_eq_true, decide_eq_true_eq, isC, Bool.not_eq_true', Bool.or_eq_false_iff, Bool.and_eq_false_iff, Bool.or_eq_true, bne_eq_false_iff_eq, bne_iff_ne, ne_eq] at h
  obtain ⟨⟨⟨⟨⟨h1, h2⟩, h3⟩, h4⟩, h5, h6⟩, ⟨⟨⟨g1, g2⟩, g3⟩, g4⟩, g5⟩ := h
  refine ⟨h1, h2, h3, h4, fun hc => ?_, fun hc => ?_, g1, g2, g3, g4, fun hc => ?_⟩
  · rcases h5 with h5 | h5
    · exact absurd h5 hc
    · exact h5
  · rcases h6 with h6 | h6
    · exact absurd h6 hc
    · exact h6
  · rcases g5 with g5 | g5
    · exact absurd hc g5
    · exact g5
theorem fits_zero {n : Int} (h : fits n 0 = true) (h0 : 0 ≤ n) : n = 0 := by
  have := fits_le h (by omega)
  omega
theorem fits_most {n m : Int} (h : fits n m = true) (hm : 0 < m) : 1 ≤ n ∧ n ≤ m := by
  unfold fits at h
  simp only [Bool.or_eq_true, Bool.and_eq_true, beq_iff_eq, decide_eq_true_eq] at h
  rcases h with ⟨rfl, h⟩ | h <;> omega
theorem len_zero {α : Type} {l : List α} (h : fits l.length 0 = true) : l = [] := List.eq_nil_of_length_eq_zero (by have := fits_zero h (by omega); omega)

def hi (n : Int) : UInt8 := UInt8.ofNat (n.toNat / 256)
def lo (n : Int) : UInt8 := UInt8.ofNat (n.toNat % 256)
theorem b1_code {c : Int} (h : c ∈ codes) : ((b1 c.toNat).toNat : Int) = c := by
  simp only [codes, List.mem_cons, List.not_mem_nil, or_false] at h
  rcases h with rfl | rfl | rfl | rfl | rfl | rfl | rfl | rfl | rfl | rfl | rfl <;> rfl

theorem text_count (c : Int) (hc : c = 1 ∨ c = 2 ∨ c = 3 ∨ c = 4) (addr count : Int) : text ⟨c, addr, count, 0, [], [], 0, 0⟩ = [b1 c.toNat, hi addr, lo addr, hi count, lo count] := by
  unfold text
  rw [if_pos hc]
  rfl
theorem text_five (addr : Int) (b : Bool) : text ⟨5, addr, 0, 0, [], [b], 0, 0⟩ = [5, hi addr, lo addr, if b then 255 else 0, 0] := by
  cases b <;> rfl
theorem text_six (addr : Int) (x : UInt16) : text ⟨6, addr, 0, 0, [x], [], 0, 0⟩ = [6, hi addr, lo addr, hi (x.toNat : Int), lo (x.toNat : Int)] := rfl
theorem text_bits (addr : Int) (l : List Bool) : text ⟨15, addr, 0, 0, [], l, 0, 0⟩ = 15 :: hi addr :: lo addr :: hi (l.length : Int) :: lo (l.length : Int) :: b1 (Word.pack l).length :: Word.pack l := rfl
theorem text_words (addr : Int) (l : List UInt16) : text ⟨16, addr, 0, 0, l, [], 0, 0⟩ = 16 :: hi addr :: lo addr :: hi (l.length : Int) :: lo (l.length : Int) :: b1 (Word.bytes l).length :: Word.bytes l := rfl
theorem text_mask (addr : Int) (x y : UInt16) : text ⟨22, addr, 0, 0, [], [], x, y⟩ = [22, hi addr, lo addr, hi (x.toNat : Int), lo (x.toNat : Int), hi (y.toNat : Int), lo (y.toNat : Int)] := rfl
theorem text_both (addr count to : Int) (l : List UInt16) : text ⟨23, addr, count, to, l, [], 0, 0⟩ = 23 :: hi addr :: lo addr :: hi count :: lo count :: hi to :: lo to :: hi (l.length : Int) :: lo (l.length : Int) :: b1 (Word.bytes l).length :: Word.bytes l := rfl
theorem text_ident (addr count : Int) : text ⟨43, addr, count, 0, [], [], 0, 0⟩ = [43, 14, b1 count.toNat, b1 addr.toNat] := rfl

inductive Shape : Ask → Prop
  | count (c addr n : Int) (hc : c = 1 ∨ c = 2 ∨ c = 3 ∨ c = 4) (h0 : 0 ≤ addr) (h1 : addr ≤ 65535) (n0 : 1 ≤ n) (n1 : n ≤ 2000) : Shape ⟨c, addr, n, 0, [], [], 0, 0⟩
  | five (addr : Int) (b : Bool) (h0 : 0 ≤ addr) (h1 : addr ≤ 65535) : Shape ⟨5, addr, 0, 0, [], [b], 0, 0⟩
  | six (addr : Int) (x : UInt16) (h0 : 0 ≤ addr) (h1 : addr ≤ 65535) : Shape ⟨6, addr, 0, 0, [x], [], 0, 0⟩
  | bits (addr : Int) (l : List Bool) (h0 : 0 ≤ addr) (h1 : addr ≤ 65535) (l0 : 1 ≤ l.length) (l1 : l.length ≤ 1968) : Shape ⟨15, addr, 0, 0, [], l, 0, 0⟩
  | words (addr : Int) (l : List UInt16) (h0 : 0 ≤ addr) (h1 : addr ≤ 65535) (l0 : 1 ≤ l.length) (l1 : l.length ≤ 123) : Shape ⟨16, addr, 0, 0, l, [], 0, 0⟩
  | mask (addr : Int) (x y : UInt16) (h0 : 0 ≤ addr) (h1 : addr ≤ 65535) : Shape ⟨22, addr, 0, 0, [], [], x, y⟩
  | both (addr n to : Int) (l : List UInt16) (h0 : 0 ≤ addr) (h1 : addr ≤ 65535) (n0 : 1 ≤ n) (n1 : n ≤ 125) (t0 : 0 ≤ to) (t1 : to ≤ 65535) (l0 : 1 ≤ l.length) (l1 : l.length ≤ 121) : Shape ⟨23, addr, n, to, l, [], 0, 0⟩
  | ident (addr n : Int) (h0 : 0 ≤ addr) (h1 : addr ≤ 255) (n0 : 1 ≤ n) (n1 : n ≤ 4) : Shape ⟨43, addr, n, 0, [], [], 0, 0⟩
theorem shape {a : Ask} (h : formed a = true) : Shape a := by
  obtain ⟨hc, hn, hw, hb, hao, hto, a0, a1, t0, t1, h43⟩ := formed_parts h
  obtain ⟨code, addr, count, to, words, bits, and_, or_⟩ := a
  simp only at *
  simp only [codes, List.mem_cons, List.not_mem_nil, or_false] at hc
  have cnt : (code = 1 ∨ code = 2 ∨ code = 3 ∨ code = 4) → Shape ⟨code, addr, count, to, words, bits, and_, or_⟩ := by
    intro hc
    obtain ⟨rfl, rfl⟩ := hao (by omega)
    obtain rfl := hto (by omega)
    have hm : (most code).1 ≤ 2000 ∧ 0 < (most code).1 ∧ (most code).2.1 = 0 ∧ (most code).2.2 = 0 := by rcases hc with rfl | rfl | rfl | rfl <;> decide
    obtain ⟨m1, m2, m3, m4⟩ := hm
    rw [m3] at hw
    rw [m4] at hb
    obtain rfl := len_zero hw
    obtain rfl := len_zero hb
    have := fits_most hn m2
    exact .count code addr count hc a0 a1 this.1 (by omega)
  rcases hc with hc | hc | hc | hc | rfl | rfl | rfl | rfl | rfl | rfl | rfl
  · exact cnt (by omega)
  · exact cnt (by omega)
  · exact cnt (by omega)
  · exact cnt (by omega)
  · obtain ⟨rfl, rfl⟩ := hao (by omega)
    obtain rfl := hto (by omega)
    obtain rfl := len_zero (α := UInt16) hw
    have hl := fits_most (m := 1) hb (by omega)
    obtain rfl : count = 0 := by have := fits_le (m := 0) hn (by omega); omega
    obtain ⟨b, rfl⟩ := List.length_eq_one_iff.1 (show bits.length = 1 by omega)
    exact .five addr b a0 a1
  · obtain ⟨rfl, rfl⟩ := hao (by omega)
    obtain rfl := hto (by omega)
    obtain rfl := len_zero (α := Bool) hb
    have hl := fits_most (m := 1) hw (by omega)
    obtain rfl : count = 0 := by have := fits_le (m := 0) hn (by omega); omega
    obtain ⟨b, rfl⟩ := List.length_eq_one_iff.1 (show words.length = 1 by omega)
    exact .six addr b a0 a1
  · obtain ⟨rfl, rfl⟩ := hao (by omega)
    obtain rfl := hto (by omega)
    obtain rfl := len_zero (α := UInt16) hw
    have hl := fits_most (m := 1968) hb (by omega)
    obtain rfl : count = 0 := by have := fits_le (m := 0) hn (by omega); omega
    exact .bits addr bits a0 a1 (by omega) (by omega)
  · obtain ⟨rfl, rfl⟩ := hao (by omega)
    obtain rfl := hto (by omega)
    obtain rfl := len_zero (α := Bool) hb
    have hl := fits_most (m := 123) hw (by omega)
    obtain rfl : count = 0 := by have := fits_le (m := 0) hn (by omega); omega
    exact .words addr words a0 a1 (by omega) (by omega)
  · obtain rfl := hto (by omega)
    obtain rfl := len_zero (α := Bool) hb
    obtain rfl := len_zero (α := UInt16) hw
    obtain rfl : count = 0 := by have := fits_le (m := 0) hn (by omega); omega
    exact .mask addr and_ or_ a0 a1
  · obtain ⟨rfl, rfl⟩ := hao (by omega)
    obtain rfl := len_zero (α := Bool) hb
    have hl := fits_most (m := 121) hw (by omega)
    have hl2 := fits_most (m := 125) hn (by omega)
    exact .both addr count to words a0 a1 hl2.1 hl2.2 t0 t1 (by omega) (by omega)
  · obtain ⟨rfl, rfl⟩ := hao (by omega)
    obtain rfl := hto (by omega)
    obtain rfl := len_zero (α := UInt16) hw
    obtain rfl := len_zero (α := Bool) hb
    have hl2 := fits_most (m := 4) hn (by omega)
    exact .ident addr count a0 (h43 rfl) hl2.1 hl2.2

def span (b : List UInt8) : Nat :=
  let c := (b.getD 0 0).toNat
  if c = 15 ∨ c = 16 then 6 + (b.getD 5 0).toNat else if c = 23 then 10 + (b.getD 9 0).toNat else if c = 22 then 7 else if c = 43 then 4 else 5
def sees (b : List UInt8) : Nat :=
  let c := (b.getD 0 0).toNat
  if c = 15 ∨ c = 16 then 6 else if c = 23 then 10 else 1
theorem text_span {a : Ask} (h : Shape a) : (text a).length = span (text a) ∧ sees (text a) ≤ (text a).length ∧ (text a).length ≤ 252 := by
  cases h with
  | count c addr n hc h0 h1 n0 n1 =>
    rw [text_count c hc]
    rcases hc with rfl | rfl | rfl | rfl <;> exact ⟨rfl, (by show 1 ≤ 5; omega), by simp⟩
  | five addr b h0 h1 => rw [text_five]; exact ⟨rfl, (by show 1 ≤ 5; omega), by simp⟩
  | six addr x h0 h1 => rw [text_six]; exact ⟨rfl, (by show 1 ≤ 5; omega), by simp⟩
  | bits addr l h0 h1 l0 l1 =>
    rw [text_bits]
    have hp := Word.pack_length l
    refine ⟨?_, ?_, ?_⟩
    · show (Word.pack l).length + 6 = 6 + (b1 (Word.pack l).length).toNat
      rw [b1_back _ (by omega)]
      omega
    · show 6 ≤ (Word.pack l).length + 6
      omega
    · show (Word.pack l).length + 6 ≤ 252
      omega
  | words addr l h0 h1 l0 l1 =>
    rw [text_words]
    have hp := Word.bytes_length l
    refine ⟨?_, ?_, ?_⟩
    · show (Word.bytes l).length + 6 = 6 + (b1 (Word.bytes l).length).toNat
      rw [b1_back _ (by omega)]
      omega
    · show 6 ≤ (Word.bytes l).length + 6
      omega
    · show (Word.bytes l).length + 6 ≤ 252
      omega
  | mask addr x y h0 h1 => rw [text_mask]; exact ⟨rfl, (by show 1 ≤ 7; omega), by simp⟩
  | both addr n to l h0 h1 n0 n1 t0 t1 l0 l1 =>
    rw [text_both]
    have hp := Word.bytes_length l
    refine ⟨?_, ?_, ?_⟩
    · show (Word.bytes l).length + 10 = 10 + (b1 (Word.bytes l).length).toNat
      rw [b1_back _ (by omega)]
      omega
    · show 10 ≤ (Word.bytes l).length + 10
      omega
    · show (Word.bytes l).length + 10 ≤ 252
      omega
  | ident addr n h0 h1 n0 n1 => rw [text_ident]; exact ⟨rfl, (by show 1 ≤ 4; omega), by simp⟩
theorem bytes_most (a : Ask) : (bytes a).length ≤ 252 := by
  unfold bytes
  cases h : right a with
  | false => simp
  | true =>
    unfold right at h
    rw [Bool.and_eq_true] at h
    exact (text_span (shape h.1)).2.2
end Ak
end Go.Proofs.YtlgmjnjhdamknaaGreat
