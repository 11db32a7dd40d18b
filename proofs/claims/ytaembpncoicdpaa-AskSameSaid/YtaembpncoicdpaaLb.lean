
/-
  The landed ask: layoutBy.
-/
import Derived.Test.YtaembpncoicdpaaRi
import Derived.Lib.MinMax
namespace Go.Proofs.Ytaembpncoicdpaa
open Go.RowKit Go.Shelf

/-- The layout that bytes begin with. -/
def layBy (b : List UInt8) : Option LK := if b.length = 0 then none else match layOf ((b.getD 0 0).toNat : Nat) with
  | none => none
  | some L => if b.take (min b.length L.begin_.length) == L.begin_.take (min b.length L.begin_.length) then some L else none
/-- What layoutBy leaves. -/
def LayByPost (w : World) (b : List UInt8) (e : Ending) (w' : World) : Prop :=
  Below w.heap.size w w' ∧ (match layBy b with
    | none => ∃ A n c B m m2 f, e = .returned (.tuple #[.agg #[.slice A n c, .slice B m m2, f], .bool false]) ∧ (f = .nilFunc ∨ ∃ g, f = .func (.func g) #[] #[])
    | some L => ∃ A n c b m g, e = .returned (.tuple #[.agg #[.slice A n c, .slice (some ⟨b, 0, none⟩) m m, .func (.func g) #[] #[]], .bool true]) ∧ LayIn w.heap.size w' L (.agg #[.slice A n c, .slice (some ⟨b, 0, none⟩) m m, .func (.func g) #[] #[]]) ∧ InsideOK g L.inside)
theorem LayByPost.none {w w' : World} {b : List UInt8} {A B : Option Addr} {n c m m2 : Nat} {f : Value} (hl : layBy b = Option.none) (hf : f = .nilFunc ∨ ∃ g, f = .func (.func g) #[] #[]) (hb : Below w.heap.size w w') : LayByPost w b (.returned (.tuple #[.agg #[.slice A n c, .slice B m m2, f], .bool false])) w' :=
  ⟨hb, by rw [hl]; exact ⟨A, n, c, B, m, m2, f, rfl, hf⟩⟩

set_option maxRecDepth 100000 in
set_option maxHeartbeats 1000000 in
theorem layoutBy_any (A : Option Addr) (n c : Nat) (b : List UInt8) (hn : b.length = n) (hnc : n ≤ c) (_hcm : c ≤ maxLen) (w : World) (hb : Lies u8v w A b) :
    Calls Try.prog 17 #[.slice A n c] w (LayByPost w b) := by
  have r0 := row_at w #[.slice none 0 0, .slice none 0 0, .nilFunc] 44 w.heap.size rfl
  have hb0 : Below w.heap.size w (w.alloc (.cells #[.slice none 0 0, .slice none 0 0, .nilFunc] 44)) := (Below.refl _ w).alloc (Nat.le_refl _) _
  by_cases h0 : n = 0
  · have HL : Hid (layBy b = none) := Lib.hid (by unfold layBy; rw [if_pos (by omega)])
    have h0' : ((n : Int) == 0) = true := by rw [h0]; rfl
    clear hn hb h0
    go_enter Try.func17, Try.ntmps17
    go_wp2_with fail
    refine bodyPost_ret_by (v := .tuple #[.agg #[.slice none 0 0, .slice none 0 0, .nilFunc], .bool false]) (by simp [results, Try.f17, go_sem]) rfl ?_
    exact LayByPost.none HL.out (.inl rfl) hb0
  · have h0' : ((n : Int) == 0) = false := by rw [beq_eq_false_iff_ne]; omega
    have h0p : 0 < n := by omega
    have h0i : (0 : Int) < (n : Int) := by omega
    obtain ⟨b1, o1, rfl, hlt1, hcs⟩ := hb.at_ (by omega)
    have hc0 := hcs 0 (by omega)
    have hg : b.getD 0 0 = b[0]'(by omega) := by rw [List.getD_eq_getElem?_getD, List.getElem?_eq_getElem (by omega), Option.getD_some]
    rw [Nat.add_zero, ← hg] at hc0
    have HBY : Hid (layBy b = match layOf ((b.getD 0 0).toNat : Nat) with | none => none | some L => if b.take (min b.length L.begin_.length) == L.begin_.take (min b.length L.begin_.length) then some L else none) := Lib.hid (by unfold layBy; rw [if_neg (by omega)])
    have hxl := (b.getD 0 0).toNat_lt
    unfold u8v at hc0
    generalize (b.getD 0 0).toNat = x at *
    have i1 : IntKind.i64.wrap (x : Int) = (x : Int) := by rw [IntKind.wrap_i64]; omega
    have hc1 := (hb0.cell (p := ⟨b1, o1, none⟩) hlt1).trans hc0
    have HLO := Lib.hid (layoutOf_any (x : Int) (w.alloc (.cells #[.slice none 0 0, .slice none 0 0, .nilFunc] 44)))
    have HBL := Lib.hid hb
    have HNN := Lib.hid hn
    clear hcs hc0 hg h0 hn hb
    cases hl : layOf (x : Int) with
    | none =>
      have HN := Lib.hid hl
      have HL : Hid (layBy b = none) := Lib.hid (by rw [HBY.out, hl])
      clear hl HBY
      go_enter Try.func17, Try.ntmps17
      go_wp2_with fail
      refine HLO.out.mono ?_
      intro e w3 hp
      obtain ⟨rfl, hb3⟩ := hp.at_none HN.out
      have r3 := row_later r0 hb3
      have hw3 : w.heap.size < w3.heap.size := row_lt r3
      have hr4 := row_at w3 #[.slice none 0 0, .slice none 0 0, .nilFunc] 44 w3.heap.size rfl
      have r4 := old_at r3 (.cells #[.slice none 0 0, .slice none 0 0, .nilFunc] 44)
      have hb4 : Below w.heap.size w (w3.alloc (.cells #[.slice none 0 0, .slice none 0 0, .nilFunc] 44)) := (hb0.trans (hb3.mono hb0.size)).alloc (Nat.le_trans hb0.size hb3.size) _
      have hmn : min (n : Int) 0 = 0 := by omega
      go_wp2_with fail
      generalize w3.alloc (.cells #[.slice none 0 0, .slice none 0 0, .nilFunc] 44) = w4 at *
      generalize w3.heap.size = t at *
      have hne : t ≠ w.heap.size := by omega
      obtain ⟨z0, z1, z2, y0, y1, y2⟩ := row_tri r4
      obtain ⟨x0, x1, x2, _⟩ := row_tri hr4
      have e0 : w4.drew.cell? ⟨t, 0, none⟩ = some (.slice none 0 0) := x0
      have e1 : w4.drew.cell? ⟨t, 1, none⟩ = some (.slice none 0 0) := x1
      have e2 : w4.drew.cell? ⟨t, 2, none⟩ = some .nilFunc := x2
      have e3 : w4.drew.cell? ⟨w.heap.size, 0, none⟩ = some (.slice none 0 0) := z0
      have e4 : w4.drew.cell? ⟨w.heap.size, 1, none⟩ = some (.slice none 0 0) := z1
      have e5 : w4.drew.cell? ⟨w.heap.size, 2, none⟩ = some .nilFunc := z2
      have e6 : w4.drew.frozen? ⟨w.heap.size, 0, none⟩ = false := y0
      have e7 : w4.drew.frozen? ⟨w.heap.size, 1, none⟩ = false := y1
      have e8 : w4.drew.frozen? ⟨w.heap.size, 2, none⟩ = false := y2
      have r4d : w4.drew.heap[w.heap.size]? = some (.cells #[.slice none 0 0, .slice none 0 0, .nilFunc] 44 (0, 0)) := r4
      have HM := Lib.hid (made3 r4 hb4 (Nat.le_refl _) (.slice none 0 0) (.slice none 0 0) .nilFunc)
      clear r4 hr4 hb4 r3 r4d hb0 hb3 r0 HLO
      go_region
      obtain ⟨m1, _, m3⟩ := HM.out
      have m1d : ((((w4.setCell ⟨w.heap.size, 0, none⟩ (.slice none 0 0)).setCell ⟨w.heap.size, 1, none⟩ (.slice none 0 0)).setCell ⟨w.heap.size, 2, none⟩ .nilFunc).drew).heap[w.heap.size]? = some (.cells #[.slice none 0 0, .slice none 0 0, .nilFunc] 44 (0, 0)) := m1
      obtain ⟨q0, q1, q2, _⟩ := row_tri m1d
      have HB5 := Lib.hid (drewN_below m3 1)
      clear e0 e1 e2 e3 e4 e5 e6 e7 e8 x0 x1 x2 z0 z1 z2 y0 y1 y2 m1 m3 m1d
      go_wp2_with fail
      refine bodyPost_ret_by (v := .tuple #[.agg #[.slice none 0 0, .slice none 0 0, .nilFunc], .bool false]) (by simp [results, Try.f17, go_sem, q0, q1, q2]) rfl ?_
      exact LayByPost.none HL.out (.inl rfl) HB5.out
    | some L =>
      have HN := Lib.hid hl
      rw [hl] at HBY
      dsimp only at HBY
      clear hl
      go_enter Try.func17, Try.ntmps17
      go_wp2_with fail
      refine HLO.out.mono ?_
      intro e w3 hp
      obtain ⟨hb3, A2, n2, c2, bb, m, g, rfl, hL, hI⟩ := hp.at_some HN.out
      have r3 := row_later r0 hb3
      have hw3 : w.heap.size < w3.heap.size := row_lt r3
      have hr4 := row_at w3 #[.slice A2 n2 c2, .slice (some ⟨bb, 0, none⟩) m m, .func (.func g) #[] #[]] 44 w3.heap.size rfl
      have r4 := old_at r3 (.cells #[.slice A2 n2 c2, .slice (some ⟨bb, 0, none⟩) m m, .func (.func g) #[] #[]] 44)
      have hb34 : Below w3.heap.size w3 (w3.alloc (.cells #[.slice A2 n2 c2, .slice (some ⟨bb, 0, none⟩) m m, .func (.func g) #[] #[]] 44)) := (Below.refl _ _).alloc (Nat.le_refl _) _
      have hbw3 := hb0.trans (hb3.mono hb0.size)
      have hb4 := hbw3.trans (hb34.mono hbw3.size)
      have hlo : (w.alloc (.cells #[.slice none 0 0, .slice none 0 0, .nilFunc] 44)).heap.size = w.heap.size + 1 := by simp
      rw [hlo] at hL
      have hL4 := hL.since (Since.of_below hb34)
      obtain ⟨hbeg, hn2c, hc2m, hlbeg⟩ : L.begin_.length = n2 ∧ n2 ≤ c2 ∧ c2 ≤ maxLen ∧ Lies u8v w3 A2 L.begin_ := by
        obtain ⟨_, _, _, _, _, _, _, h1, h2, _, h4, h5, h6, _⟩ := hL
        cases h1
        exact ⟨h2, h4, h5, h6⟩
      obtain ⟨k, hk⟩ : ∃ k : Nat, min n n2 = k := ⟨_, rfl⟩
      have hmn : min (n : Int) (n2 : Int) = (k : Int) := by omega
      have j1 : (k : Int) ≤ (n : Int) := by omega
      have j2 : (k : Int) ≤ (c : Int) := by omega
      have j3 : (k : Int) ≤ (n2 : Int) := by omega
      have j4 : (k : Int) ≤ (c2 : Int) := by omega
      have HK : Hid (min b.length L.begin_.length = k) := Lib.hid (by rw [HNN.out, hbeg]; exact hk)
      have HE := Lib.hid (bequal_any (some ⟨b1, o1, none⟩) A2 k k c c2 (b.take k) (L.begin_.take k) (by rw [List.length_take, HNN.out]; omega) (by rw [List.length_take, hbeg]; omega) ((w3.alloc (.cells #[.slice A2 n2 c2, .slice (some ⟨bb, 0, none⟩) m m, .func (.func g) #[] #[]] 44)).drew) (((HBL.out.take k).below hb4 (Nat.le_refl _)).drew) (((hlbeg.take k).alloc _).drew))
      rw [HK.out] at HBY
      generalize (b.take k == L.begin_.take k) = V at *
      go_wp2_with fail
      clear hlo hk hbeg hlbeg hL hb3 hbw3
      generalize w3.alloc (.cells #[.slice A2 n2 c2, .slice (some ⟨bb, 0, none⟩) m m, .func (.func g) #[] #[]] 44) = w4 at *
      generalize w3.heap.size = t at *
      have hne : t ≠ w.heap.size := by omega
      obtain ⟨z0, z1, z2, y0, y1, y2⟩ := row_tri r4
      obtain ⟨x0, x1, x2, _⟩ := row_tri hr4
      have e0 : w4.drew.cell? ⟨t, 0, none⟩ = some (.slice A2 n2 c2) := x0
      have e1 : w4.drew.cell? ⟨t, 1, none⟩ = some (.slice (some ⟨bb, 0, none⟩) m m) := x1
      have e2 : w4.drew.cell? ⟨t, 2, none⟩ = some (.func (.func g) #[] #[]) := x2
      have e3 : w4.drew.cell? ⟨w.heap.size, 0, none⟩ = some (.slice none 0 0) := z0
      have e4 : w4.drew.cell? ⟨w.heap.size, 1, none⟩ = some (.slice none 0 0) := z1
      have e5 : w4.drew.cell? ⟨w.heap.size, 2, none⟩ = some .nilFunc := z2
      have e6 : w4.drew.frozen? ⟨w.heap.size, 0, none⟩ = false := y0
      have e7 : w4.drew.frozen? ⟨w.heap.size, 1, none⟩ = false := y1
      have e8 : w4.drew.frozen? ⟨w.heap.size, 2, none⟩ = false := y2
      have HM := Lib.hid (made3 r4 hb4 (Nat.le_refl _) (.slice A2 n2 c2) (.slice (some ⟨bb, 0, none⟩) m m) (.func (.func g) #[] #[]))
      have HL5 := Lib.hid (hL4.since HM.out.2.1)
      clear r4 hr4 hb4 hb34 r3 hb0 r0 HLO hL4
      have f0 : (((w4.setCell ⟨w.heap.size, 0, none⟩ (.slice A2 n2 c2)).setCell ⟨w.heap.size, 1, none⟩ (.slice (some ⟨bb, 0, none⟩) m m)).setCell ⟨w.heap.size, 2, none⟩ (.func (.func g) #[] #[])).drew.cell? ⟨t, 0, none⟩ = some (.slice A2 n2 c2) := by
        show (((w4.setCell ⟨w.heap.size, 0, none⟩ (.slice A2 n2 c2)).setCell ⟨w.heap.size, 1, none⟩ (.slice (some ⟨bb, 0, none⟩) m m)).setCell ⟨w.heap.size, 2, none⟩ (.func (.func g) #[] #[])).cell? ⟨t, 0, none⟩ = _
        rw [cell_far hne, cell_far hne, cell_far hne]
        exact x0
      have f1 : (((w4.setCell ⟨w.heap.size, 0, none⟩ (.slice A2 n2 c2)).setCell ⟨w.heap.size, 1, none⟩ (.slice (some ⟨bb, 0, none⟩) m m)).setCell ⟨w.heap.size, 2, none⟩ (.func (.func g) #[] #[])).drew.cell? ⟨t, 1, none⟩ = some (.slice (some ⟨bb, 0, none⟩) m m) := by
        show (((w4.setCell ⟨w.heap.size, 0, none⟩ (.slice A2 n2 c2)).setCell ⟨w.heap.size, 1, none⟩ (.slice (some ⟨bb, 0, none⟩) m m)).setCell ⟨w.heap.size, 2, none⟩ (.func (.func g) #[] #[])).cell? ⟨t, 1, none⟩ = _
        rw [cell_far hne, cell_far hne, cell_far hne]
        exact x1
      have f2 : (((w4.setCell ⟨w.heap.size, 0, none⟩ (.slice A2 n2 c2)).setCell ⟨w.heap.size, 1, none⟩ (.slice (some ⟨bb, 0, none⟩) m m)).setCell ⟨w.heap.size, 2, none⟩ (.func (.func g) #[] #[])).drew.cell? ⟨t, 2, none⟩ = some (.func (.func g) #[] #[]) := by
        show (((w4.setCell ⟨w.heap.size, 0, none⟩ (.slice A2 n2 c2)).setCell ⟨w.heap.size, 1, none⟩ (.slice (some ⟨bb, 0, none⟩) m m)).setCell ⟨w.heap.size, 2, none⟩ (.func (.func g) #[] #[])).cell? ⟨t, 2, none⟩ = _
        rw [cell_far hne, cell_far hne, cell_far hne]
        exact x2
      go_region_held3 (fun X => X.cell? ⟨t, 0, none⟩ = some (.slice A2 n2 c2) ∧ X.cell? ⟨t, 1, none⟩ = some (.slice (some ⟨bb, 0, none⟩) m m) ∧ X.cell? ⟨t, 2, none⟩ = some (.func (.func g) #[] #[])) (first | with_reducible assumption | exact ⟨e0, e1, e2⟩ | exact ⟨f0, f1, f2⟩ | fail) (first | (go_at_call 50; (with_reducible refine HE.out.mono ?_); rintro e w' ⟨rfl, rfl⟩) | fail)
      obtain ⟨m1, _, m3⟩ := HM.out
      have m1d : ((((w4.setCell ⟨w.heap.size, 0, none⟩ (.slice A2 n2 c2)).setCell ⟨w.heap.size, 1, none⟩ (.slice (some ⟨bb, 0, none⟩) m m)).setCell ⟨w.heap.size, 2, none⟩ (.func (.func g) #[] #[])).drew).heap[w.heap.size]? = some (.cells #[.slice A2 n2 c2, .slice (some ⟨bb, 0, none⟩) m m, .func (.func g) #[] #[]] 44 (0, 0)) := m1
      obtain ⟨q0, q1, q2, _⟩ := row_tri m1d
      have HB5 := Lib.hid (drewN_below m3 1)
      have HL6 := Lib.hid ((HL5.out.low (show w.heap.size ≤ w.heap.size + 1 by omega)).since (show Since w.heap.size _ ((((w4.setCell ⟨w.heap.size, 0, none⟩ (.slice A2 n2 c2)).setCell ⟨w.heap.size, 1, none⟩ (.slice (some ⟨bb, 0, none⟩) m m)).setCell ⟨w.heap.size, 2, none⟩ (.func (.func g) #[] #[])).drew) from ⟨Nat.le_refl _, fun _ _ _ => rfl⟩))
      clear e0 e1 e2 e3 e4 e5 e6 e7 e8 x0 x1 x2 z0 z1 z2 y0 y1 y2 m1 m3 m1d f0 f1 f2
      cases V with
      | false =>
        have HL : Hid (layBy b = none) := Lib.hid (by rw [HBY.out]; rfl)
        go_wp2_with fail
        refine bodyPost_ret_by (v := .tuple #[.agg #[.slice A2 n2 c2, .slice (some ⟨bb, 0, none⟩) m m, .func (.func g) #[] #[]], .bool false]) (by simp [results, Try.f17, go_sem, q0, q1, q2]) rfl ?_
        exact LayByPost.none HL.out (.inr ⟨g, rfl⟩) HB5.out
      | true =>
        have HL : Hid (layBy b = some L) := Lib.hid (by rw [HBY.out]; rfl)
        go_wp2_with fail
        refine bodyPost_ret_by (v := .tuple #[.agg #[.slice A2 n2 c2, .slice (some ⟨bb, 0, none⟩) m m, .func (.func g) #[] #[]], .bool true]) (by simp [results, Try.f17, go_sem, q0, q1, q2]) rfl ?_
        exact ⟨HB5.out, by rw [HL.out]; exact ⟨A2, n2, c2, bb, m, g, rfl, HL6.out, hI⟩⟩
end Go.Proofs.Ytaembpncoicdpaa
