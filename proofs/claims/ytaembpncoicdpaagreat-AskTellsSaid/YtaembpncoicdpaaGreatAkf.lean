
/-
  Requests: formed, placed, Right of the document's layer 6, walked.
-/
import Derived.Test.YtaembpncoicdpaaGreatAk
import Derived.Test.YtaembpncoicdpaaGreatRow
import Derived.Lib.MinMax
namespace Go.Proofs.YtaembpncoicdpaaGreat
open Go.RowKit

theorem row_eight {w : World} {g : Nat} {c0 c1 c2 c3 c4 c5 c6 c7 : Value} {t : TypeId} (h : w.heap[g]? = some (.cells #[c0, c1, c2, c3, c4, c5, c6, c7] t (0, 0))) :
    w.cell? ⟨g, 0, none⟩ = some c0 ∧ w.cell? ⟨g, 1, none⟩ = some c1 ∧ w.cell? ⟨g, 2, none⟩ = some c2 ∧ w.cell? ⟨g, 3, none⟩ = some c3 ∧ w.cell? ⟨g, 4, none⟩ = some c4 ∧ w.cell? ⟨g, 5, none⟩ = some c5 ∧ w.cell? ⟨g, 6, none⟩ = some c6 ∧ w.cell? ⟨g, 7, none⟩ = some c7 := by
  simp [World.cell?, h]
theorem u16_ne (x : UInt16) : ((x.toNat : Int) != 0) = (x != 0) := by
  by_cases h : x = 0
  · subst h; rfl
  · rw [bne_iff_ne.2 h, bne_iff_ne]
    intro e
    exact h (UInt16.toNat_inj.1 (by simpa using e))

set_option maxRecDepth 100000 in
set_option maxHeartbeats 4000000 in
theorem rformed_any (a : Ask) (h k : Option Addr × Nat × Nat) (w : World) (ha : AskIn w a h k) :
    Calls Tryz.prog 25 #[askV a h k] w fun e w' => e = .returned (.bool (Ak.formed a)) ∧ Below w.heap.size w w' := by
  obtain ⟨code, addr, count, to, words, bits, and_, or_⟩ := a
  obtain ⟨hA, hn, hc⟩ := h
  obtain ⟨kA, kn, kc⟩ := k
  have e1 := ha.hn
  have e2 := ha.kn
  dsimp only at e1 e2
  clear ha
  obtain ⟨V, hV⟩ : ∃ V, Ak.formed ⟨code, addr, count, to, words, bits, and_, or_⟩ = V := ⟨_, rfl⟩
  have HF : Hid (V = (Ak.isC code && Ak.fits count (Ak.most code).1 && Ak.fits hn (Ak.most code).2.1 && Ak.fits kn (Ak.most code).2.2 && !(code != 22 && (and_ != 0 || or_ != 0) || code != 23 && to != 0) && (decide (0 ≤ addr) && decide (addr ≤ 65535) && decide (0 ≤ to) && decide (to ≤ 65535) && (code != 43 || decide (addr ≤ 255))))) := Lib.hid (by rw [← hV]; unfold Ak.formed; rw [← e1, ← e2])
  rw [hV]
  clear e1 e2 hV
  unfold askV
  go_enter Tryz.func25, Tryz.ntmps25
  go_wp2_with fail
  refine (rmost_any code _).mono ?_
  rintro e w2 ⟨rfl, rfl⟩
  go_wp2_with fail
  have hrow := row_at w #[.int .i64 code, .int .i64 addr, .int .i64 count, .int .i64 to, .slice hA hn hc, .slice kA kn kc, u16v and_, u16v or_] 30 w.heap.size rfl
  refine (ris_any code _).mono ?_
  rintro e w3 ⟨rfl, hb3⟩
  have hbw := ((Below.refl _ w).alloc (Nat.le_refl _) (.cells #[.int .i64 code, .int .i64 addr, .int .i64 count, .int .i64 to, .slice hA hn hc, .slice kA kn kc, u16v and_, u16v or_] 30)).trans (hb3.mono (by simp))
  obtain ⟨r0, r1, r2, r3, r4, r5, r6, r7⟩ := row_eight (row_later hrow hb3)
  have hltw : w.heap.size < w3.heap.size := row_lt (row_later hrow hb3)
  clear hrow hb3
  generalize Ak.most code = m at *
  obtain ⟨m1, m2, m3⟩ := m
  dsimp only at *
  cases hI : Ak.isC code with
  | false =>
    rw [hI] at HF
    go_wp2_with fail
    go_ret
    exact ⟨by rw [HF.out]; rfl, hbw⟩
  | true =>
    rw [hI] at HF
    go_wp2_with fail
    refine (rfits_any count m1 _).mono ?_
    rintro e w4 ⟨rfl, rfl⟩
    cases h1 : Ak.fits count m1 with
    | false =>
      rw [h1] at HF
      go_wp2_with fail
      go_ret
      exact ⟨by rw [HF.out]; rfl, hbw⟩
    | true =>
      rw [h1] at HF
      go_wp2_with fail
      refine (rfits_any hn m2 _).mono ?_
      rintro e w4 ⟨rfl, rfl⟩
      cases h2 : Ak.fits hn m2 with
      | false =>
        rw [h2] at HF
        go_wp2_with fail
        go_ret
        exact ⟨by rw [HF.out]; rfl, hbw⟩
      | true =>
        rw [h2] at HF
        go_wp2_with fail
        refine (rfits_any kn m3 _).mono ?_
        rintro e w4 ⟨rfl, rfl⟩
        cases h3 : Ak.fits kn m3 with
        | false =>
          rw [h3] at HF
          go_wp2_with fail
          go_ret
          exact ⟨by rw [HF.out]; rfl, hbw⟩
        | true =>
          rw [h3] at HF
          clear hI h1 h2 h3
          have n1 := u16_ne and_
          have n2 := u16_ne or_
          go_wp2_with fail
          all_goals go_ret
          all_goals refine ⟨?_, hbw⟩
          all_goals rw [HF.out]
          all_goals congr 2
          all_goals (first | (simp_all; done) | (simp_all; omega))
end Go.Proofs.YtaembpncoicdpaaGreat
