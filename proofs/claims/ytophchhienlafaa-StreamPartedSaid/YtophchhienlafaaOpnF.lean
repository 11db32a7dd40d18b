/-
  What comes in as frames, and as slices of bytes in a slice, opened.
-/
import Derived.Test.YtophchhienlafaaOpn
import Derived.Test.YtophchhienlafaaTells
namespace Go.Proofs.Ytophchhienlafaa
open Go.ChangeShapes Go.WideShapes Go.ChangeAt Go.RowKit

/-- Bytes behind a slice's header. -/
def RBytes (w : World) (l : List UInt8) (cs : List Value) : Prop := ∃ A n c, cs = [.slice A n c] ∧ l.length = n ∧ n ≤ c ∧ c ≤ maxLen ∧ l.length ≤ 140737488355328 ∧ Lies u8v w A l
/-- A frame's three cells. -/
def RFr (w : World) (x : Fr) (cs : List Value) : Prop := ∃ h : Hd, cs = frCells x h ∧ FrOk (fun _ => True) w x h

section
variable {P : Program} {H : Type} {enc : TypeId × Value → H} {w : World} {b : Nat} {sp : Nat → Bool} {hd : Bool} {t e : TypeId}
theorem open_bytes5 (hu : P.underlying t = some (.slice e)) (he : P.underlying e = some (.int .u8)) (hk : P.cellsOf e = 1) (hb : P.bytesOf e = 1) : Opens enc P w b sp hd t (RBytes w) := by
  intro m cs y h hs
  obtain ⟨l, A, n, c, h1, h2, h3, h4, h5, h6⟩ := open_slice hu hk (by omega) (open_u8 he) m cs y h hs
  rw [hb] at h5
  exact ⟨l, A, n, c, h1, h2, h3, h4, by have := reachBytes_lt; omega, h6.lies⟩
theorem open_fr {f0 f1 f2 : Field} (hu : P.underlying t = some (.struct #[f0, f1, f2])) (h0 : P.underlying f0.type = some (.int .u16)) (h1 : P.underlying f1.type = some (.int .u8)) (h2 : P.underlying f2.type = some (.slice e)) (he : P.underlying e = some (.int .u8)) (hes : P.cellsOf e = 1) (heb : P.bytesOf e = 1)
    (ho0 : f0.offset = 0) (ho1 : f1.offset = 1) (ho2 : f2.offset = 2) (hc0 : P.cellsOf f0.type = 1) (hc1 : P.cellsOf f1.type = 1) (hc2 : P.cellsOf f2.type = 1) (hck : P.cellsOf t = 3) : Opens enc P w b sp hd t (RFr w) := by
  intro m cs y h hs
  obtain ⟨xs, n, rfl, hx, hl, hxl, hf⟩ := DataW.trod_struct hu h
  rw [hck] at hl
  obtain ⟨x0, x1, x2, rfl⟩ : ∃ x0 x1 x2, xs = [x0, x1, x2] := by
    match xs, hxl with
    | [x0, x1, x2], _ => exact ⟨x0, x1, x2, rfl⟩
  have hs' : Small P t (.agg ([x0, x1, x2].map (·.1))) := by rw [hx] at hs; exact hs
  match cs, hl with
  | [c0, c1, c2], _ =>
    have g0 := hf 0 f0 rfl
    have g1 := hf 1 f1 rfl
    have g2 := hf 2 f2 rfl
    rw [ho0, hc0] at g0
    rw [ho1, hc1] at g1
    rw [ho2, hc2] at g2
    obtain ⟨t', ht'⟩ := open_u16 h0 _ _ _ g0 (small_part hu hs' (j := 0) rfl rfl)
    obtain ⟨u', hu'⟩ := open_u8 h1 _ _ _ g1 (small_part hu hs' (j := 1) rfl rfl)
    obtain ⟨p', A, k, c, hp', hpn, hnc, hcm, _, hL⟩ := open_bytes5 h2 he hes heb _ _ _ g2 (small_part hu hs' (j := 2) rfl rfl)
    simp at ht' hu' hp'
    subst ht' hu' hp'
    exact ⟨⟨t', u', p'⟩, (A, k, c), rfl, hpn, hnc, hcm, hL, fun _ _ _ _ _ => trivial⟩
end

theorem frs_of {w : World} {b : Nat} : ∀ (l : List Fr) (off : Nat), (∀ j (hj : j < l.length), ∃ cs : List Value, cs.length = 3 ∧ (∀ i (hi : i < cs.length), w.cell? ⟨b, off + j * 3 + i, none⟩ = some cs[i]) ∧ RFr w l[j] cs) →
    ∃ vs, FrsIn (fun _ => True) w vs l ∧ ∀ j (hj : j < vs.length), w.cell? ⟨b, off + j, none⟩ = some vs[j]
  | [], _, _ => ⟨[], rfl, fun j hj => absurd hj (by simp)⟩
  | x :: l, off, h => by
    obtain ⟨cs, hl, hc, hd, e, hok⟩ := h 0 (by simp)
    obtain ⟨vs, h1, h2⟩ := frs_of (w := w) (b := b) l (off + 3) fun j hj => by
      obtain ⟨cs, a1, a2, a3⟩ := h (j + 1) (by simpa using hj)
      refine ⟨cs, a1, fun i hi => ?_, by simpa using a3⟩
      have := a2 i hi
      rw [← this]
      congr 2
      omega
    refine ⟨frCells x hd ++ vs, ⟨hd, vs, rfl, by simpa using hok, h1⟩, fun j hj => ?_⟩
    subst e
    by_cases hj3 : j < (frCells x hd).length
    · rw [List.getElem_append_left hj3]
      have := hc j hj3
      simpa using this
    · have h3 : (frCells x hd).length = 3 := rfl
      rw [List.getElem_append_right (by omega)]
      have := h2 (j - 3) (by simp at hj; omega)
      rw [show off + j = off + 3 + (j - 3) by omega, this]
      simp [h3]
theorem frs_at {w : World} {A : Option Addr} {l : List Fr} (h : SlAt w (RFr w) 3 A l) : FrsAt w A l := by
  rcases Nat.eq_zero_or_pos l.length with h0 | h0
  · obtain rfl := List.eq_nil_of_length_eq_zero h0
    exact FrsBy.nil _ _ _
  · obtain ⟨b, off, _, rfl, _⟩ := h 0 h0
    obtain ⟨vs, h1, h2⟩ := frs_of (w := w) (b := b) l off fun j hj => by
      obtain ⟨b', off', cs, e, a1, a2, a3⟩ := h j hj
      cases e
      exact ⟨cs, a1, a2, a3⟩
    exact ⟨vs, fun j hj => ⟨b, off, rfl, h2 j hj⟩, h1⟩
theorem parts_at {w : World} {A : Option Addr} {l : List (List UInt8)} (h : SlAt w (RBytes w) 1 A l) : PartsAt w A l ∧ ∀ x ∈ l, x.length ≤ 140737488355328 := by
  refine ⟨fun j hj => ?_, fun x hx => ?_⟩
  · obtain ⟨b, off, cs, e, _, hc, C, n, c, rfl, h1, h2, h3, _, h5⟩ := h j hj
    exact ⟨b, off, C, n, c, e, by have := hc 0 (by simp); simpa using this, h1, h2, h3, h5⟩
  · obtain ⟨j, hj, rfl⟩ := List.getElem_of_mem hx
    obtain ⟨b, off, cs, e, _, hc, C, n, c, rfl, h1, h2, h3, h4, h5⟩ := h j hj
    exact h4
end Go.Proofs.Ytophchhienlafaa
