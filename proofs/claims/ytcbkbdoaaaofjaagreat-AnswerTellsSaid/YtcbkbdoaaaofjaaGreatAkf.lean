
/-
  Requests: formed, placed, Right of the document's layer 6, walked.
-/
import Derived.Test.YtcbkbdoaaaofjaaGreatAk
import Derived.Test.YtcbkbdoaaaofjaaGreatKit
import Derived.Lib.MinMax
namespace Go.Proofs.YtcbkbdoaaaofjaaGreat
open Go.RowKit

theorem row_eight {w : World} {g : Nat} {c0 c1 c2 c3 c4 c5 c6 c7 : Value} {t : TypeId} (h : w.heap[g]? = some (.cells #[c0, c1, c2, c3, c4, c5, c6, c7] t (0, 0))) :
    w.cell? ⟨g, 0, none⟩ = some c0 ∧ w.cell? ⟨g, 1, none⟩ = some c1 ∧ w.cell? ⟨g, 2, none⟩ = some c2 ∧ w.cell? ⟨g, 3, none⟩ = some c3 ∧ w.cell? ⟨g, 4, none⟩ = some c4 ∧ w.cell? ⟨g, 5, none⟩ = some c5 ∧ w.cell? ⟨g, 6, none⟩ = some c6 ∧ w.cell? ⟨g, 7, none⟩ = some c7 := by
  simp [World.cell?, h]
theorem u16_ne (x : UInt16) : ((x.toNat : Int) != 0) = (x != 0) := by
  by_cases h : x = 0
  · subst h; rfl
  · rw [bne_iff_ne.2 h, bne_iff_ne]
    intro e
    exact h (UInt16.toNat_inj.1 (by simpa using e))

set_option maxRecDepth 100000 in
set_option maxHeartbeats 4000000 in
theorem rformed_any (a : Ask) (h k : Option Addr × Nat × Nat) (w : World) (ha : AskIn w a h k) :
    Calls Tryz.prog 35 #[askV a h k] w fun e w' => e = .returned (.bool (Ak.formed a)) ∧ Below w.heap.size w w' := by
  obtain ⟨code, addr, count, to, words, bits, and_, or_⟩ := a
  obtain ⟨hA, hn, hc⟩ := h
  obtain ⟨kA, kn, kc⟩ := k
  have e1 := ha.hn
  have e2 := ha.kn
  dsimp only at e1 e2
  clear ha
  obtain ⟨V, hV⟩ : ∃ V, Ak.formed ⟨code, addr, count, to, words, bits, and_, or_⟩ = V := ⟨_, rfl⟩
  have HF : Hid (V = (Ak.isC code && Ak.fits count (Ak.most code).1 && Ak.fits hn (Ak.most code).2.1 && Ak.fits kn (Ak.most code).2.2 && !(code != 22 && (and_ != 0 || or_ != 0) || code != 23 && to != 0) && (decide (0 ≤ addr) && decide (addr ≤ 65535) && decide (0 ≤ to) && decide (to ≤ 65535) && (code != 43 || decide (addr ≤ 255))))) := Lib.hid (by rw [← hV]; unfold Ak.formed; rw [← e1, ← e2])
  rw [hV]
  clear e1 e2 hV
  unfold askV
  go_enter Tryz.func35, Tryz.ntmps35
  go_wp2_with fail
  refine (rmost_any code _).mono ?_
  rintro e w2 ⟨rfl, rfl⟩
  go_wp2_with fail
  have hrow := row_at w #[.int .i64 code, .int .i64 addr, .int .i64 count, .int .i64 to, .slice hA hn hc, .slice kA kn kc, u16v and_, u16v or_] 35 w.heap.size rfl
  refine (ris_any code _).mono ?_
  rintro e w3 ⟨rfl, hb3⟩
  have hbw := ((Below.refl _ w).alloc (Nat.le_refl _) (.cells #[.int .i64 code, .int .i64 addr, .int .i64 count, .int .i64 to, .slice hA hn hc, .slice kA kn kc, u16v and_, u16v or_] 35)).trans (hb3.mono (by simp))
  obtain ⟨r0, r1, r2, r3, r4, r5, r6, r7⟩ := row_eight (row_later hrow hb3)
  have hltw : w.heap.size < w3.heap.size := row_lt (row_later hrow hb3)
  clear hrow hb3
  generalize Ak.most code = m at *
  obtain ⟨m1, m2, m3⟩ := m
  dsimp only at *
  cases hI : Ak.isC code with
  | false =>
    rw [hI] at HF
    go_wp2_with fail
    go_ret
    exact ⟨by rw [HF.out]; rfl, hbw⟩
  | true =>
    rw [hI] at HF
    go_wp2_with fail
    refine (rfits_any count m1 _).mono ?_
    rintro e w4 ⟨rfl, rfl⟩
    cases h1 : Ak.fits count m1 with
    | false =>
      rw [h1] at HF
      go_wp2_with fail
      go_ret
      exact ⟨by rw [HF.out]; rfl, hbw⟩
    | true =>
      rw [h1] at HF
      go_wp2_with fail
      refine (rfits_any hn m2 _).mono ?_
      rintro e w4 ⟨rfl, rfl⟩
      cases h2 : Ak.fits hn m2 with
      | false =>
        rw [h2] at HF
        go_wp2_with fail
        go_ret
        exact ⟨by rw [HF.out]; rfl, hbw⟩
      | true =>
        rw [h2] at HF
        go_wp2_with fail
        refine (rfits_any kn m3 _).mono ?_
        rintro e w4 ⟨rfl, rfl⟩
        cases h3 : Ak.fits kn m3 with
        | false =>
          rw [h3] at HF
          go_wp2_with fail
          go_ret
          exact ⟨by rw [HF.out]; rfl, hbw⟩
        | true =>
          rw [h3] at HF
          clear hI h1 h2 h3
          have n1 := u16_ne and_
          have n2 := u16_ne or_
          go_wp2_with fail
          all_goals go_ret
          all_goals refine ⟨?_, hbw⟩
          all_goals rw [HF.out]
          all_goals congr 2
          all_goals (first | (simp_all; done) | (simp_all; omega))
end Go.Proofs.YtcbkbdoaaaofjaaGreat

/-
  Requests: what is so of those that are formed; placed, Right of the document's layer 6, walked.
-/
namespace Go.Proofs.YtcbkbdoaaaofjaaGreat
open Go.RowKit

theorem run_max_three {P : Program} (w : World) (ts : Array TypeId) (t : TypeId) (k k' k'' : IntKind) (x y z : Int) :
    (Builtin.max_ ts t #[.int k x, .int k' y, .int k'' z]).run P w = .ok (.int k (max (max x y) z)) w := by
  have e : ∀ x y : Int, (if y > x then y else x) = max x y := by
    intro x y
    rw [Int.max_def]
    split <;> split <;> omega
  simp [Builtin.max_, Builtin.max2, e]
attribute [local go_sem] run_max_three

namespace Ak
theorem fits_le {n m : Int} (h : fits n m = true) (hm : 0 ≤ m) : 0 ≤ n ∧ n ≤ m := by
  unfold fits at h
  simp only [Bool.or_eq_true, Bool.and_eq_true, beq_iff_eq, decide_eq_true_eq] at h
  rcases h with ⟨rfl, rfl⟩ | h <;> omega
theorem most_le (c : Int) : 0 ≤ (most c).1 ∧ (most c).1 ≤ 2000 ∧ 0 ≤ (most c).2.1 ∧ (most c).2.1 ≤ 123 ∧ 0 ≤ (most c).2.2 ∧ (most c).2.2 ≤ 1968 := by
  unfold most
  repeat' split
  all_goals simp
structure Bounds (a : Ask) : Prop where
  c : a.code ∈ codes
  a0 : 0 ≤ a.addr
  a1 : a.addr ≤ 65535
  t0 : 0 ≤ a.to
  t1 : a.to ≤ 65535
  n0 : 0 ≤ a.count
  n1 : a.count ≤ 2000
  w1 : a.words.length ≤ 123
  b1 : a.bits.length ≤ 1968
theorem bounds {a : Ask} (h : formed a = true) : Bounds a := by
  unfold formed at h
  simp only [Bool.and_eq_true, decide_eq_true_eq, isC] at h
  obtain ⟨⟨⟨⟨⟨h1, h2⟩, h3⟩, h4⟩, _⟩, ⟨⟨⟨h5, h6⟩, h7⟩, h8⟩, _⟩ := h
  obtain ⟨m0, m1, m2, m3, m4, m5⟩ := most_le a.code
  have g2 := fits_le h2 m0
  have g3 := fits_le h3 m2
  have g4 := fits_le h4 m4
  exact ⟨h1, h5, h6, h7, h8, by omega, by omega, by omega, by omega⟩
end Ak

set_option maxRecDepth 100000 in
set_option maxHeartbeats 4000000 in
theorem rplaced_any (a : Ask) (h k : Option Addr × Nat × Nat) (w : World) (ha : AskIn w a h k) (hf : Ak.formed a = true) :
    Calls Tryz.prog 36 #[askV a h k] w fun e w' => e = .returned (.bool (Ak.placed a)) ∧ Below w.heap.size w w' := by
  obtain ⟨_, b1, b2, b3, b4, b5, b6, b7, b8⟩ := Ak.bounds hf
  obtain ⟨code, addr, count, to, words, bits, and_, or_⟩ := a
  obtain ⟨hA, hn, hc⟩ := h
  obtain ⟨kA, kn, kc⟩ := k
  have e1 := ha.hn
  have e2 := ha.kn
  dsimp only at e1 e2 b1 b2 b3 b4 b5 b6 b7 b8
  rw [e1] at b7
  rw [e2] at b8
  clear ha hf
  obtain ⟨V, hV⟩ : ∃ V, Ak.placed ⟨code, addr, count, to, words, bits, and_, or_⟩ = V := ⟨_, rfl⟩
  have HF : Hid (V = (if code = 23 then decide (addr + count ≤ 65536) && decide (to + hn ≤ 65536) else code == 43 || decide (addr + max (max (max count kn) 1) hn ≤ 65536))) := Lib.hid (by rw [← hV]; unfold Ak.placed; rw [← e1, ← e2])
  rw [hV]
  clear e1 e2 hV
  have w1 : IntKind.i64.wrap (addr + count) = addr + count := by rw [IntKind.wrap_i64]; omega
  have w2 : IntKind.i64.wrap (to + (hn : Int)) = to + (hn : Int) := by rw [IntKind.wrap_i64]; omega
  have w3 : IntKind.i64.wrap (addr + max (max (max count (kn : Int)) 1) (hn : Int)) = addr + max (max (max count (kn : Int)) 1) (hn : Int) := by rw [IntKind.wrap_i64]; omega
  unfold askV
  go_enter Tryz.func36, Tryz.ntmps36
  go_wp2_with fail
  all_goals go_ret
  all_goals refine ⟨?_, by repeat (first | exact Below.refl _ _ | apply Below.alloc | omega)⟩
  all_goals rw [HF.out]
  all_goals congr 2
  all_goals (first | (simp_all; done) | (simp_all; omega))

set_option maxRecDepth 100000 in
set_option maxHeartbeats 4000000 in
theorem rright_any (a : Ask) (h k : Option Addr × Nat × Nat) (w : World) (ha : AskIn w a h k) :
    Calls Tryz.prog 22 #[askV a h k] w fun e w' => e = .returned (.bool (Ak.right a)) ∧ Below w.heap.size w w' := by
  have HR : Hid (Ak.right a = (Ak.formed a && Ak.placed a)) := Lib.hid rfl
  go_enter Tryz.func22, Tryz.ntmps22
  have hb0 : Below w.heap.size w (w.alloc (.cells #[.int .i64 a.code, .int .i64 a.addr, .int .i64 a.count, .int .i64 a.to, .slice h.1 h.2.1 h.2.2, .slice k.1 k.2.1 k.2.2, u16v a.and_, u16v a.or_] 35)) := (Below.refl _ _).alloc (Nat.le_refl _) _
  have hrow := row_at w #[.int .i64 a.code, .int .i64 a.addr, .int .i64 a.count, .int .i64 a.to, .slice h.1 h.2.1 h.2.2, .slice k.1 k.2.1 k.2.2, u16v a.and_, u16v a.or_] 35 w.heap.size rfl
  have ha1 := ha.below hb0
  have hA : askV a h k = .agg #[.int .i64 a.code, .int .i64 a.addr, .int .i64 a.count, .int .i64 a.to, .slice h.1 h.2.1 h.2.2, .slice k.1 k.2.1 k.2.2, u16v a.and_, u16v a.or_] := rfl
  rw [hA]
  go_wp2_with fail
  refine (rformed_any a h k _ ha1).mono ?_
  rintro e w2 ⟨rfl, hb2⟩
  have hbw := hb0.trans (hb2.mono hb0.size)
  have ha2 := ha1.below hb2
  obtain ⟨r0, r1, r2, r3, r4, r5, r6, r7⟩ := row_eight (row_later hrow hb2)
  have hz := hbw.size
  cases hf : Ak.formed a with
  | false =>
    rw [hf] at HR
    go_wp2_with fail
    go_ret
    exact ⟨by rw [HR.out]; rfl, hbw⟩
  | true =>
    have HFF := Lib.hid hf
    rw [hf] at HR
    clear hf
    go_wp2_with fail
    refine (rplaced_any a h k _ ha2 HFF.out).mono ?_
    rintro e w3 ⟨rfl, hb3⟩
    go_wp2_with fail
    go_ret
    exact ⟨by rw [HR.out]; rfl, hbw.trans (hb3.mono hz)⟩
end Go.Proofs.YtcbkbdoaaaofjaaGreat
