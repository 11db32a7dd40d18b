
/-
  The landed ask: Parse.
-/
import Derived.Test.YtaembpncoicdpaaLb
import Derived.Test.YtaembpncoicdpaaMb
namespace Go.Proofs.Ytaembpncoicdpaa
open Go.RowKit Go.Shelf

theorem ParsePost.good {w w' : World} {b : List UInt8} {a : Ask} {h k : Option Addr × Nat × Nat} (hp : Ak.parse b = (a, 0)) (hi : AskIn w' a h k) (hb : Below w.heap.size w w') : ParsePost w b (.returned (.tuple #[askV a h k, .int .i64 0])) w' :=
  ⟨h, k, by rw [hp]; rfl, by rw [hp]; exact hi, hb⟩
theorem layBy_at_some {w w' : World} {b : List UInt8} {e : Ending} {L : LK} (h : LayByPost w b e w') (hl : layBy b = some L) : Below w.heap.size w w' ∧ ∃ A n c b m g, e = .returned (.tuple #[.agg #[.slice A n c, .slice (some ⟨b, 0, none⟩) m m, .func (.func g) #[] #[]], .bool true]) ∧ LayIn w.heap.size w' L (.agg #[.slice A n c, .slice (some ⟨b, 0, none⟩) m m, .func (.func g) #[] #[]]) ∧ InsideOK g L.inside := by
  obtain ⟨h1, h2⟩ := h
  rw [hl] at h2
  exact ⟨h1, h2⟩
theorem layBy_at_none {w w' : World} {b : List UInt8} {e : Ending} (h : LayByPost w b e w') (hl : layBy b = Option.none) : Below w.heap.size w w' ∧ ∃ A n c B m m2 f, e = .returned (.tuple #[.agg #[.slice A n c, .slice B m m2, f], .bool false]) ∧ (f = .nilFunc ∨ ∃ g, f = .func (.func g) #[] #[]) := by
  obtain ⟨h1, h2⟩ := h
  rw [hl] at h2
  exact ⟨h1, h2⟩

set_option maxRecDepth 100000 in
set_option maxHeartbeats 2000000 in
theorem parse6_any (A : Option Addr) (n c : Nat) (b : List UInt8) (hn : b.length = n) (hnc : n ≤ c) (hcm : c ≤ maxLen) (hm : n ≤ 1000) (w : World) (hb : Lies u8v w A b) :
    Calls Try.prog 9 #[.slice A n c] w (ParsePost w b) := by
  have r0 := row_at w #[.int .i64 0, .int .i64 0, .int .i64 0, .int .i64 0, .slice none 0 0, .slice none 0 0, .int .u16 0, .int .u16 0] 26 w.heap.size rfl
  have hb0 : Below w.heap.size w (w.alloc (.cells #[.int .i64 0, .int .i64 0, .int .i64 0, .int .i64 0, .slice none 0 0, .slice none 0 0, .int .u16 0, .int .u16 0] 26)) := (Below.refl _ w).alloc (Nat.le_refl _) _
  have HLB := Lib.hid (layoutBy_any A n c b hn hnc hcm (w.alloc (.cells #[.int .i64 0, .int .i64 0, .int .i64 0, .int .i64 0, .slice none 0 0, .slice none 0 0, .int .u16 0, .int .u16 0] 26)) (hb.alloc _))
  have HBL := Lib.hid hb
  have HNN := Lib.hid hn
  have HMM := Lib.hid hm
  cases hl : layBy b with
  | none =>
    have HP : Hid (Ak.parse b = (Ak.zero, 1)) := Lib.hid (parse_none hl)
    have HN := Lib.hid hl
    clear hl hb hn hm
    go_enter Try.func9, Try.ntmps9
    go_wp2_with fail
    refine HLB.out.mono ?_
    intro e w2 hp
    obtain ⟨hb2, A2, n2, c2, B2, m1, m2, f, rfl, hf⟩ := layBy_at_none hp HN.out
    have r2 := row_later r0 hb2
    have hbw2 := hb0.trans (hb2.mono hb0.size)
    have hlt2 : w.heap.size < w2.heap.size := row_lt r2
    clear hp HLB HBL
    rcases hf with rfl | ⟨g, rfl⟩
    · have hd := 0
      obtain ⟨y0, y1, y2, y3, y4, y5, y6, y7⟩ := row_eight r2
      obtain ⟨f0, f1, f2, f3, f4, f5, f6, f7⟩ := row_eight_free r2
      have HS8 := Lib.hid (old_at (stored_eight r2 (.int .i64 0) (.int .i64 0) (.int .i64 0) (.int .i64 0) (.slice none 0 0) (.slice none 0 0) (.int .u16 0) (.int .u16 0)) (.cells #[.slice A2 n2 c2, .slice B2 m1 m2, .nilFunc] 44))
      have hb8 := below_eight hbw2 (Nat.le_refl _) (.int .i64 0) (.int .i64 0) (.int .i64 0) (.int .i64 0) (.slice none 0 0) (.slice none 0 0) (.int .u16 0) (.int .u16 0)
      have HBE := Lib.hid (hb8.alloc hb8.size (.cells #[.slice A2 n2 c2, .slice B2 m1 m2, .nilFunc] 44))
      clear hb8
      go_wp2_with fail
      obtain ⟨s0, s1, s2, s3, s4, s5, s6, s7⟩ := row_eight HS8.out
      refine bodyPost_ret_by (v := .tuple #[askV Ak.zero (none, 0, 0) (none, 0, 0), .int .i64 1]) (by simp [askV, Ak.zero, results, Try.f9, go_sem, s0, s1, s2, s3, s4, s5, s6, s7]) rfl ?_
      exact ParsePost.none HP.out HBE.out
    · have hd := 0
      obtain ⟨y0, y1, y2, y3, y4, y5, y6, y7⟩ := row_eight r2
      obtain ⟨f0, f1, f2, f3, f4, f5, f6, f7⟩ := row_eight_free r2
      have HS8 := Lib.hid (old_at (stored_eight r2 (.int .i64 0) (.int .i64 0) (.int .i64 0) (.int .i64 0) (.slice none 0 0) (.slice none 0 0) (.int .u16 0) (.int .u16 0)) (.cells #[.slice A2 n2 c2, .slice B2 m1 m2, .func (.func g) #[] #[]] 44))
      have hb8 := below_eight hbw2 (Nat.le_refl _) (.int .i64 0) (.int .i64 0) (.int .i64 0) (.int .i64 0) (.slice none 0 0) (.slice none 0 0) (.int .u16 0) (.int .u16 0)
      have HBE := Lib.hid (hb8.alloc hb8.size (.cells #[.slice A2 n2 c2, .slice B2 m1 m2, .func (.func g) #[] #[]] 44))
      clear hb8
      go_wp2_with fail
      obtain ⟨s0, s1, s2, s3, s4, s5, s6, s7⟩ := row_eight HS8.out
      refine bodyPost_ret_by (v := .tuple #[askV Ak.zero (none, 0, 0) (none, 0, 0), .int .i64 1]) (by simp [askV, Ak.zero, results, Try.f9, go_sem, s0, s1, s2, s3, s4, s5, s6, s7]) rfl ?_
      exact ParsePost.none HP.out HBE.out
  | some L =>
    have HN := Lib.hid hl
    have HP0 := Lib.hid (parse_some hl)
    have HLP := Lib.hid (layBy_parts hl)
    clear hl hb hn hm
    go_enter Try.func9, Try.ntmps9
    go_wp2_with fail
    refine HLB.out.mono ?_
    intro e w2 hp
    obtain ⟨hb2, A2, n2, c2, bb, m, g, rfl, hL, hI⟩ := layBy_at_some hp HN.out
    have r2 := row_later r0 hb2
    have hbw2 := hb0.trans (hb2.mono hb0.size)
    have hlt2 : w.heap.size < w2.heap.size := row_lt r2
    have hb3 : Below w2.heap.size w2 (w2.alloc (.cells #[.slice A2 n2 c2, .slice (some ⟨bb, 0, none⟩) m m, .func (.func g) #[] #[]] 44)) := (Below.refl _ _).alloc (Nat.le_refl _) _
    have rl3 := row_at w2 #[.slice A2 n2 c2, .slice (some ⟨bb, 0, none⟩) m m, .func (.func g) #[] #[]] 44 w2.heap.size rfl
    have r3 := row_later r2 hb3
    have hbw3 := hbw2.trans (hb3.mono hbw2.size)
    have HRD := Lib.hid (read6_any _ w2 (w2.alloc (.cells #[.slice A2 n2 c2, .slice (some ⟨bb, 0, none⟩) m m, .func (.func g) #[] #[]] 44)) L HLP.out.1 HLP.out.2 _ hL hb3 A n c b HNN.out hnc hcm (by have := HMM.out; omega) (HBL.out.below hbw3 (Nat.le_refl _)))
    go_wp2_with fail
    refine HRD.out.mono ?_
    rintro e w4 ⟨a, h, k, ok, rfl, ha, hb4, n1, n2, hres⟩
    have HNW : Hid ((∀ b o s, h.1 = some ⟨b, o, s⟩ → 0 < h.2.1 → b ≠ w.heap.size) ∧ ∀ b o s, k.1 = some ⟨b, o, s⟩ → 0 < k.2.1 → b ≠ w.heap.size) := Lib.hid ⟨fun b o s e h0 => by have := n1 b o s e h0; simp only [World.size_alloc] at this; omega, fun b o s e h0 => by have := n2 b o s e h0; simp only [World.size_alloc] at this; omega⟩
    clear n1 n2
    have hL4 := hL.since ((Since.of_below hb3).trans (Since.of_below hb4))
    have r4 := row_later r3 hb4
    have rl4 := row_later rl3 hb4
    have hbw4 := hbw3.trans (hb4.mono hbw3.size)
    have hlt4 : w.heap.size < w4.heap.size := row_lt r4
    have hlt5 : w2.heap.size < w4.heap.size := row_lt rl4
    clear hp HLB HBL HRD r3 rl3 hb3 hb2 hL r0 hb0
    rw [askV_eq]
    cases ok with
    | false =>
      have HP : Hid (Ak.parse b = (Ak.zero, 3)) := Lib.hid (HP0.out.1 (by
        cases hr : L.readAll b with
        | none => rfl
        | some x => rw [hr] at hres; cases hres.1))
      clear hres hL4 HP0 hbw2 hbw3 r2
      obtain ⟨y0, y1, y2, y3, y4, y5, y6, y7⟩ := row_eight r4
      obtain ⟨f0, f1, f2, f3, f4, f5, f6, f7⟩ := row_eight_free r4
      have HS8 := Lib.hid (old_at (stored_eight r4 (.int .i64 0) (.int .i64 0) (.int .i64 0) (.int .i64 0) (.slice none 0 0) (.slice none 0 0) (.int .u16 0) (.int .u16 0)) (.cells #[.int .i64 a.code, .int .i64 a.addr, .int .i64 a.count, .int .i64 a.to, .slice h.1 h.2.1 h.2.2, .slice k.1 k.2.1 k.2.2, u16v a.and_, u16v a.or_] 26))
      have hb8 := below_eight hbw4 (Nat.le_refl _) (.int .i64 0) (.int .i64 0) (.int .i64 0) (.int .i64 0) (.slice none 0 0) (.slice none 0 0) (.int .u16 0) (.int .u16 0)
      have HBE := Lib.hid (hb8.alloc hb8.size (.cells #[.int .i64 a.code, .int .i64 a.addr, .int .i64 a.count, .int .i64 a.to, .slice h.1 h.2.1 h.2.2, .slice k.1 k.2.1 k.2.2, u16v a.and_, u16v a.or_] 26))
      clear hb8
      go_wp2_with fail
      obtain ⟨s0, s1, s2, s3, s4, s5, s6, s7⟩ := row_eight HS8.out
      refine bodyPost_ret_by (v := .tuple #[askV Ak.zero (none, 0, 0) (none, 0, 0), .int .i64 3]) (by simp [askV, Ak.zero, results, Try.f9, go_sem, s0, s1, s2, s3, s4, s5, s6, s7]) rfl ?_
      exact ParsePost.none HP.out HBE.out
    | true =>
      have HRA : Hid (L.readAll b = some a) := Lib.hid (by
        cases hr : L.readAll b with
        | none => rw [hr] at hres; cases hres
        | some x => rw [hr] at hres; rw [hres.2])
      have hb5 : Below w4.heap.size w4 (w4.alloc (.cells #[.int .i64 a.code, .int .i64 a.addr, .int .i64 a.count, .int .i64 a.to, .slice h.1 h.2.1 h.2.2, .slice k.1 k.2.1 k.2.2, u16v a.and_, u16v a.or_] 26)) := (Below.refl _ _).alloc (Nat.le_refl _) _
      have ra5 := row_at w4 #[.int .i64 a.code, .int .i64 a.addr, .int .i64 a.count, .int .i64 a.to, .slice h.1 h.2.1 h.2.2, .slice k.1 k.2.1 k.2.2, u16v a.and_, u16v a.or_] 26 w4.heap.size rfl
      have r5 := row_later r4 hb5
      have rl5 := row_later rl4 hb5
      have ha5 := ha.below hb5
      have hbw5 := hbw4.trans (hb5.mono hbw4.size)
      have HF := Lib.hid (fits6_any _ w4 (w4.alloc (.cells #[.int .i64 a.code, .int .i64 a.addr, .int .i64 a.count, .int .i64 a.to, .slice h.1 h.2.1 h.2.2, .slice k.1 k.2.1 k.2.2, u16v a.and_, u16v a.or_] 26)) L HLP.out.1 _ hL4 hb5 a h k ha5)
      rw [askV_eq] at HF
      have eg := hI.en
      unfold Enters at eg
      obtain ⟨q0, q1, q2, _⟩ := row_tri rl4
      clear hres
      cases hf : L.fits a with
      | false =>
        have HP : Hid (Ak.parse b = (Ak.zero, 3)) := Lib.hid (HP0.out.2.1 a HRA.out hf)
        rw [hf] at HF
        clear hf
        go_wp2_with fail
        refine HF.out.mono ?_
        rintro e w6 ⟨rfl, hb6⟩
        have r6 := row_later r5 hb6
        have hbw6 := hbw5.trans (hb6.mono hbw5.size)
        clear q0 q1 q2 r2 r4 r5 rl4 rl5 ra5 HF
        obtain ⟨y0, y1, y2, y3, y4, y5, y6, y7⟩ := row_eight r6
        obtain ⟨f0, f1, f2, f3, f4, f5, f6, f7⟩ := row_eight_free r6
        have HS8 := Lib.hid (stored_eight r6 (.int .i64 0) (.int .i64 0) (.int .i64 0) (.int .i64 0) (.slice none 0 0) (.slice none 0 0) (.int .u16 0) (.int .u16 0))
        have HBE := Lib.hid (below_eight hbw6 (Nat.le_refl _) (.int .i64 0) (.int .i64 0) (.int .i64 0) (.int .i64 0) (.slice none 0 0) (.slice none 0 0) (.int .u16 0) (.int .u16 0))
        go_wp2_with fail
        obtain ⟨s0, s1, s2, s3, s4, s5, s6, s7⟩ := row_eight HS8.out
        refine bodyPost_ret_by (v := .tuple #[askV Ak.zero (none, 0, 0) (none, 0, 0), .int .i64 3]) (by simp [askV, Ak.zero, results, Try.f9, go_sem, s0, s1, s2, s3, s4, s5, s6, s7]) rfl ?_
        exact ParsePost.none HP.out HBE.out
      | true =>
        have HSM := Lib.hid (layBy_small HN.out HRA.out hf)
        have HIN := Lib.hid (fun W ha => hI.ca W a h k ha HSM.out)
        rw [askV_eq] at HIN
        have HPI := Lib.hid (HP0.out.2.2 a HRA.out hf)
        rw [hf] at HF
        clear hf
        go_wp2_with fail
        refine HF.out.mono ?_
        rintro e w6 ⟨rfl, hb6⟩
        have r6 := row_later r5 hb6
        have rl6 := row_later rl5 hb6
        have ra6 := row_later ra5 hb6
        have ha6 := ha5.below hb6
        have hbw6 := hbw5.trans (hb6.mono hbw5.size)
        clear q0 q1 q2
        obtain ⟨q0, q1, q2, _⟩ := row_tri rl6
        obtain ⟨t0, t1, t2, t3, t4, t5, t6, t7⟩ := row_eight ra6
        clear r2 r4 r5 rl4 rl5 ra5 HF
        have HI6 := Lib.hid (HIN.out _ ha6)
        cases hok : L.inside.ok a with
        | false =>
          have HP : Hid (Ak.parse b = (Ak.zero, 2)) := Lib.hid (HPI.out.1 hok)
          rw [hok] at HI6
          clear hok
          go_wp2_with (go_at_fn g; refine HI6.out.mono ?_; rintro e w7 ⟨rfl, hb7⟩; have r7 := row_later r6 hb7; obtain ⟨y0, y1, y2, y3, y4, y5, y6, y7⟩ := row_eight r7; obtain ⟨f0, f1, f2, f3, f4, f5, f6, f7⟩ := row_eight_free r7)
          have hbw7 := hbw6.trans (hb7.mono hbw6.size)
          obtain ⟨s0, s1, s2, s3, s4, s5, s6, s7⟩ := row_eight (stored_eight r7 (.int .i64 0) (.int .i64 0) (.int .i64 0) (.int .i64 0) (.slice none 0 0) (.slice none 0 0) (.int .u16 0) (.int .u16 0))
          refine bodyPost_ret_by (v := .tuple #[askV Ak.zero (none, 0, 0) (none, 0, 0), .int .i64 2]) (by simp [askV, Ak.zero, results, Try.f9, go_sem, s0, s1, s2, s3, s4, s5, s6, s7]) rfl ?_
          exact ParsePost.none HP.out (below_eight hbw7 (Nat.le_refl _) (.int .i64 0) (.int .i64 0) (.int .i64 0) (.int .i64 0) (.slice none 0 0) (.slice none 0 0) (.int .u16 0) (.int .u16 0))
        | true =>
          have HP : Hid (Ak.parse b = (a, 0)) := Lib.hid (HPI.out.2 hok)
          rw [hok] at HI6
          clear hok
          go_wp2_with (go_at_fn g; refine HI6.out.mono ?_; rintro e w7 ⟨rfl, hb7⟩; have r7 := row_later r6 hb7; obtain ⟨y0, y1, y2, y3, y4, y5, y6, y7⟩ := row_eight r7; obtain ⟨f0, f1, f2, f3, f4, f5, f6, f7⟩ := row_eight_free r7; clear t0 t1 t2 t3 t4 t5 t6 t7; obtain ⟨t0, t1, t2, t3, t4, t5, t6, t7⟩ := row_eight (row_later ra6 hb7))
          have hbw7 := hbw6.trans (hb7.mono hbw6.size)
          obtain ⟨s0, s1, s2, s3, s4, s5, s6, s7⟩ := row_eight (stored_eight r7 (.int .i64 a.code) (.int .i64 a.addr) (.int .i64 a.count) (.int .i64 a.to) (.slice h.1 h.2.1 h.2.2) (.slice k.1 k.2.1 k.2.2) (u16v a.and_) (u16v a.or_))
          refine bodyPost_ret_by (v := .tuple #[askV a h k, .int .i64 0]) (by simp [askV, results, Try.f9, go_sem, s0, s1, s2, s3, s4, s5, s6, s7]) rfl ?_
          exact ParsePost.good HP.out ((ha6.below hb7).eight HNW.out.1 HNW.out.2 (.int .i64 a.code) (.int .i64 a.addr) (.int .i64 a.count) (.int .i64 a.to) (.slice h.1 h.2.1 h.2.2) (.slice k.1 k.2.1 k.2.2) (u16v a.and_) (u16v a.or_)) (below_eight hbw7 (Nat.le_refl _) (.int .i64 a.code) (.int .i64 a.addr) (.int .i64 a.count) (.int .i64 a.to) (.slice h.1 h.2.1 h.2.2) (.slice k.1 k.2.1 k.2.2) (u16v a.and_) (u16v a.or_))
end Go.Proofs.Ytaembpncoicdpaa
